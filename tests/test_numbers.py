"""What the files share of whole numbers, squares, primes and turnings."""

import math
import unittest

from plain import NO_NUMBERS, DoorCase
from squarefield.errors import BadNumber
from squarefield.numbers import (
    Turning, are_parts_of, is_number, is_prime, is_rest_prime, is_whole, least_divisor, pairs_of, primes_in,
    refuse_no_number, times_in, whole_root,
)

NO_WHOLE_NUMBERS = [True, False, None, "1", "", [1], (1,), {}, 1.0, 0.0]


def sieve(below):
    prime = [False, False] + [True] * (below - 2)
    for value in range(2, below):
        if prime[value]:
            for multiple in range(2 * value, below, value):
                prime[multiple] = False
    return prime


class Numbers(DoorCase):
    def test_a_number_is_whole_from_0_to_10000(self):
        for value in [0, 1, 2, 5000, 9999, 10000]:
            self.assertIs(is_number(value), True, value)
        for value in [-10000, -1, 10001, 10 ** 30, -10 ** 30]:
            self.assertIs(is_number(value), False, value)

    def test_true_false_and_other_kinds_are_no_numbers(self):
        for value in NO_WHOLE_NUMBERS:
            self.assertIs(is_number(value), False, value)
            self.assertIs(is_whole(value), False, value)

    def test_what_is_no_number_is_refused(self):
        self.each_refused(BadNumber, refuse_no_number, NO_NUMBERS)
        for value in range(10001):
            self.assertIsNone(refuse_no_number(value))

    def test_whole_numbers_have_no_bounds(self):
        for value in [-10 ** 30, -1, 0, 1, 10 ** 30]:
            self.assertIs(is_whole(value), True, value)


class Primes(unittest.TestCase):
    def test_primes_up_to_10000_are_those_of_a_sieve(self):
        expected = sieve(10001)
        for value in range(10001):
            self.assertIs(is_prime(value), expected[value], value)

    def test_what_is_no_number_is_no_prime(self):
        for value in [-2, -3, -7, -10000] + NO_WHOLE_NUMBERS:
            self.assertIs(is_prime(value), False, value)

    def test_rest_primes_are_odd_and_below_1000(self):
        expected = sieve(10001)
        for value in range(10001):
            due = expected[value] and value % 2 == 1 and value < 1000
            self.assertIs(is_rest_prime(value), due, value)
        for value in [-3, -7] + NO_WHOLE_NUMBERS:
            self.assertIs(is_rest_prime(value), False, value)

    def test_least_divisor_is_the_first_one_tried(self):
        for value in range(2, 1500):
            self.assertEqual(least_divisor(value), next(d for d in range(2, value + 1) if value % d == 0))

    def test_primes_in_are_all_primes_that_go_in_each_once_rising(self):
        expected = sieve(1500)
        self.assertEqual(primes_in(1), [])
        for value in range(2, 1500):
            self.assertEqual(primes_in(value), [d for d in range(2, value + 1) if expected[d] and value % d == 0])

    def test_times_in_counts_how_often_a_prime_goes_in(self):
        self.assertEqual(times_in(3, 1), 0)
        self.assertEqual(times_in(3, 10), 0)
        self.assertEqual(times_in(3, 21), 1)
        self.assertEqual(times_in(3, 18), 2)
        self.assertEqual(times_in(3, 6561), 8)
        self.assertEqual(times_in(2, 8192), 13)


class Squares(unittest.TestCase):
    def test_whole_root_up_to_10000_and_about_greater_squares(self):
        for number in list(range(10001)) + [89999, 90000, 90001]:
            self.assertEqual(whole_root(number), math.isqrt(number))

    def test_pairs_of_are_all_pairs_rising(self):
        for number in list(range(400)) + [9999, 10000, 42025, 90000]:
            root = math.isqrt(number)
            due = [(one, other) for one in range(root + 1) for other in range(one, root + 1)
                   if one * one + other * other == number]
            self.assertEqual(pairs_of(number), due)


class Parts(unittest.TestCase):
    def test_parts_whose_squares_together_are_the_number(self):
        self.assertIs(are_parts_of([0], 0), True)
        self.assertIs(are_parts_of([1, 2], 5), True)
        self.assertIs(are_parts_of([1, 1, 2, 2, 3], 19), True)

    def test_falling_parts_and_another_sum(self):
        self.assertIs(are_parts_of([2, 1], 5), False)
        self.assertIs(are_parts_of([1, 2], 4), False)
        self.assertIs(are_parts_of([-2, 1], 5), False)

    def test_other_kinds(self):
        for parts in [5, "12", None, (1, 2), ["1", "2"], [1, "2"], [True, 2], [[1], 2]]:
            self.assertIs(are_parts_of(parts, 5), False, parts)

    def test_the_list_is_left_as_it_was(self):
        parts = [2, 1]
        are_parts_of(parts, 5)
        self.assertEqual(parts, [2, 1])


class Turnings(unittest.TestCase):
    def stand(self, upper, lower, step):
        turning = Turning(upper, lower)
        done = turning.take(step)
        return (done, turning.upper, turning.lower, turning.changed)

    def test_the_mark_is_even_at_first(self):
        self.assertIs(Turning(2, 3).changed, False)

    def test_rest(self):
        self.assertEqual(self.stand(17, 7, "rest"), (True, 3, 7, False))
        self.assertEqual(self.stand(14, 7, "rest"), (True, 0, 7, False))
        self.assertEqual(self.stand(3, 7, "rest"), (True, 3, 7, False))
        self.assertEqual(self.stand(1, 1, "rest"), (True, 0, 1, False))

    def test_half_changes_the_mark_over_3_or_5_by_8(self):
        for lower in [1, 7, 9, 15, 17, 23]:
            self.assertEqual(self.stand(6, lower, "half"), (True, 3, lower, False))
        for lower in [3, 5, 11, 13, 19, 21]:
            self.assertEqual(self.stand(6, lower, "half"), (True, 3, lower, True))

    def test_half_cannot_be_done_with_an_odd_upper_number_or_0(self):
        for upper in [0, 1, 3, 9]:
            self.assertEqual(self.stand(upper, 3, "half"), (False, upper, 3, False))

    def test_turn_changes_the_mark_if_both_leave_3_by_4(self):
        self.assertEqual(self.stand(3, 7, "turn"), (True, 7, 3, True))
        self.assertEqual(self.stand(5, 7, "turn"), (True, 7, 5, False))
        self.assertEqual(self.stand(3, 5, "turn"), (True, 5, 3, False))
        self.assertEqual(self.stand(5, 13, "turn"), (True, 13, 5, False))

    def test_turn_cannot_be_done_with_an_even_upper_number(self):
        for upper in [0, 2, 6]:
            self.assertEqual(self.stand(upper, 7, "turn"), (False, upper, 7, False))

    def test_words_that_are_no_step(self):
        for word in ["", "Rest", "rest ", "halve", "turns", "mark", 0, 1, None]:
            self.assertEqual(self.stand(3, 7, word), (False, 3, 7, False))

    def test_a_second_change_takes_the_first_one_back(self):
        turning = Turning(4, 3)
        self.assertTrue(turning.take("half"))
        self.assertIs(turning.changed, True)
        self.assertTrue(turning.take("half"))
        self.assertIs(turning.changed, False)


if __name__ == "__main__":
    unittest.main()
