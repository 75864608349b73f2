"""Roots by a prime, or the chain that bars them."""

import unittest

from plain import NO_NUMBERS, ODD_PRIMES, OF_NO_USE, WHOLE_BUT_BEYOND, DoorCase, primes_below
from squarefield.answers import Chain, Root
from squarefield.errors import BadNumber, BadPrime
from squarefield.turnings import root


# The steps of point 8 by its words: where they lead, and how often the mark changes.
def led(steps, upper, lower):
    changes = 0
    for step in steps:
        if step == "rest":
            upper = upper % lower
        elif step == "half":
            assert upper > 0 and upper % 2 == 0
            upper = upper // 2
            changes += lower % 8 in (3, 5)
        else:
            assert step == "turn" and upper % 2 == 1
            changes += upper % 4 == 3 and lower % 4 == 3
            upper, lower = lower, upper
    return upper, changes


class Roots(DoorCase):
    def held(self, number, prime, squares):
        told = root(number, prime)
        self.assertIs(told.shows(number, prime), True, (number, prime))
        if number % prime in squares:
            self.assertIs(type(told), Root, (number, prime))
            self.whole(told.root)
            self.assertTrue(0 <= told.root <= prime // 2, (number, prime))
            self.assertEqual((told.root * told.root - number) % prime, 0, (number, prime))
        else:
            self.assertIs(type(told), Chain, (number, prime))
            self.assertIs(type(told.steps), list)
            upper, changes = led(told.steps, number, prime)
            self.assertEqual((upper, changes % 2), (1, 1), (number, prime))

    def test_every_odd_prime_below_1000_and_numbers_from_0_to_beyond_it(self):
        self.assertEqual(len(ODD_PRIMES), 167)
        for prime in ODD_PRIMES:
            squares = {value * value % prime for value in range(prime)}
            for number in list(range(prime + 12)) + [2 * prime, 2 * prime + 1, 9998, 9999, 10000]:
                self.held(number, prime, squares)

    def test_every_number_by_some_primes(self):
        for prime in [3, 5, 7, 11, 17, 31]:
            squares = {value * value % prime for value in range(prime)}
            for number in range(10001):
                self.held(number, prime, squares)

    def test_worked_by_hand(self):
        for number, prime, due in [(0, 3, 0), (1, 3, 1), (10000, 3, 1), (2, 7, 3), (14, 7, 0), (997, 997, 0), (1, 997, 1)]:
            self.assertEqual(root(number, prime).root, due, (number, prime))
        self.assertEqual(root(2, 3).steps, ["half"])
        self.assertEqual(root(3, 7).steps, ["turn", "rest"])


class Refusals(DoorCase):
    def test_what_is_no_number_is_refused(self):
        for prime in [3, 7, 997]:
            self.each_refused(BadNumber, lambda value: root(value, prime), NO_NUMBERS)

    def test_what_is_no_odd_prime_below_1000_is_refused(self):
        others = [value for value in range(-1000, 10001) if value not in ODD_PRIMES]
        for number in [0, 1, 2, 10000]:
            self.each_refused(BadPrime, lambda value: root(number, value), OF_NO_USE + WHOLE_BUT_BEYOND)
            self.each_refused(BadPrime, lambda value: root(number, value), [[3], (3,), "3", 3.0, [7], "7"])
        for value in others:
            self.refused(BadPrime, root, 5, value, place=value)
        for value in [1009, 1013] + primes_below(10001)[-3:]:
            self.refused(BadPrime, root, 5, value, place=value)

    def test_of_two_wrong_things_the_number_is_refused_first(self):
        for number in [None, True, "5", [5], (5,), -1, 10001]:
            for prime in [None, True, "7", [7], (7,), -7, 0, 1, 2, 9, 1009]:
                self.refused(BadNumber, root, number, prime, place=(number, prime))


class ToldAnew(unittest.TestCase):
    def test_an_answer_may_be_changed(self):
        told = root(3, 7)
        told.steps.append("half")
        told.steps[0] = "rest"
        self.assertEqual(root(3, 7).steps, ["turn", "rest"])
        told.steps = None
        self.assertEqual(root(3, 7).steps, ["turn", "rest"])
        told = root(2, 7)
        told.root = 5
        self.assertEqual(root(2, 7).root, 3)
        self.assertIsNot(root(2, 7), told)

    def test_the_arguments_bear_their_names(self):
        self.assertEqual(root(prime=7, number=2).root, 3)


if __name__ == "__main__":
    unittest.main()
