"""What is told of a number, or of a number and a prime, and whether it is so."""

from squarefield.numbers import Turning, are_parts_of, is_number, is_prime, is_rest_prime, times_in


# Whoever hands a list in may change it later; what is no list is left for shows to judge.
def copied(value):
    return list(value) if isinstance(value, list) else value


class Answer:
    pass


class Two(Answer):
    def __init__(self, one, other):
        self.one = one
        self.other = other

    def shows(self, number):
        return is_number(number) and are_parts_of([self.one, self.other], number)


class BarTwo(Answer):
    def __init__(self, prime, often):
        self.prime = prime
        self.often = often

    def shows(self, number):
        if not is_number(number) or number == 0:
            return False
        if not is_prime(self.prime) or not is_number(self.often):
            return False
        return self.prime % 4 == 3 and self.often % 2 == 1 and self.often == times_in(self.prime, number)


class Three(Answer):
    def __init__(self, parts):
        self.parts = copied(parts)

    def shows(self, number):
        return is_number(number) and are_parts_of(self.parts, number) and len(self.parts) == 3


class BarThree(Answer):
    def __init__(self, fours, eights):
        self.fours = fours
        self.eights = eights

    # The number is divided, not the power built: that one could get thousands of figures.
    def shows(self, number):
        if not is_number(number) or not is_number(self.fours) or not is_number(self.eights):
            return False
        left = number
        for taken in range(self.fours):
            if left % 4 != 0:
                return False
            left = left // 4
        return left == 8 * self.eights + 7


class Four(Answer):
    def __init__(self, parts):
        self.parts = copied(parts)

    def shows(self, number):
        return is_number(number) and are_parts_of(self.parts, number) and len(self.parts) == 4


class Root(Answer):
    def __init__(self, root):
        self.root = root

    def shows(self, number, prime):
        if not is_number(number) or not is_rest_prime(prime) or not is_number(self.root):
            return False
        return 2 * self.root <= prime and self.root * self.root % prime == number % prime


class Chain(Answer):
    def __init__(self, steps):
        self.steps = copied(steps)

    def shows(self, number, prime):
        if not is_number(number) or not is_rest_prime(prime) or not isinstance(self.steps, list):
            return False
        turning = Turning(number, prime)
        for step in self.steps:
            if not turning.take(step):
                return False
        return turning.upper == 1 and turning.changed
