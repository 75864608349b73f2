"""What the other files share of whole numbers, squares, primes and turnings."""

from squarefield.errors import BadNumber

MOST_NUMBER = 10000
PRIMES_BELOW = 1000


# True and False would pass for 1 and 0 in Python, yet they are no numbers here.
def is_whole(value):
    return isinstance(value, int) and not isinstance(value, bool)


def is_number(value):
    return is_whole(value) and 0 <= value <= MOST_NUMBER


# The words are the same whatever was handed in, since some values cannot be written out.
def refuse_no_number(value):
    if not is_number(value):
        raise BadNumber("no whole number from 0 to 10000")


# Asked of numbers from 2 on. The least divisor above 1 is always a prime.
def least_divisor(number):
    divisor = 2
    while divisor * divisor <= number:
        if number % divisor == 0:
            return divisor
        divisor = divisor + 1
    return number


def is_prime(value):
    return is_number(value) and value > 1 and least_divisor(value) == value


# The primes by which roots and chains are told.
def is_rest_prime(value):
    return is_prime(value) and value != 2 and value < PRIMES_BELOW


# Asked of numbers from 1 on, since every prime goes into 0; each one is told once, rising.
def primes_in(number):
    primes = []
    left = number
    while left > 1:
        prime = least_divisor(left)
        primes.append(prime)
        while left % prime == 0:
            left = left // prime
    return primes


# Asked of numbers from 1 on: there is no end to how often a prime goes into 0.
def times_in(prime, number):
    times = 0
    left = number
    while left % prime == 0:
        left = left // prime
        times = times + 1
    return times


# The greatest whole number whose square is no more than the number.
def whole_root(number):
    root = 0
    while (root + 1) * (root + 1) <= number:
        root = root + 1
    return root


# All pairs as point 2 tells them, also of numbers beyond 10000: the thirds of walks
# are squared. Each step leaves out one that can be in no further pair.
def pairs_of(number):
    pairs = []
    one = 0
    other = whole_root(number)
    while one <= other:
        together = one * one + other * other
        if together == number:
            pairs.append((one, other))
        if together <= number:
            one = one + 1
        else:
            other = other - 1
    return pairs


# The kinds come first, so that any list can be asked about without an error.
def are_parts_of(parts, number):
    if not isinstance(parts, list) or not all([is_number(part) for part in parts]):
        return False
    return parts == sorted(parts) and sum([part * part for part in parts]) == number


# The lower number stays odd and above 0 when it is so at first, since only an
# odd upper one can take its place: a rest by it can always be taken.
class Turning:
    def __init__(self, upper, lower):
        self.upper = upper
        self.lower = lower
        self.changed = False

    # Whether the step could be done; one that could not leaves all as it was.
    def take(self, step):
        if step == "rest":
            self.upper = self.upper % self.lower
            return True
        if step == "half" and self.upper > 0 and self.upper % 2 == 0:
            self.change_mark(self.lower % 8 in (3, 5))
            self.upper = self.upper // 2
            return True
        if step == "turn" and self.upper % 2 == 1:
            self.change_mark(self.upper % 4 == 3 and self.lower % 4 == 3)
            former = self.upper
            self.upper = self.lower
            self.lower = former
            return True
        return False

    def change_mark(self, due):
        self.changed = self.changed != due
