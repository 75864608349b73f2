"""Numbers told as sums of squares, or what bars them."""

import itertools
import unittest

from plain import NO_NUMBER_INSIDE, NO_NUMBERS, NUMBERS, OF_NO_USE, WHOLE_BUT_BEYOND, DoorCase, primes_below
from squarefield.answers import BarThree, BarTwo, Four, Three, Two
from squarefield.errors import BadNumber, BadParts
from squarefield.sums import four, joined, signed, three, two, ways

SQUARES = [value * value for value in range(101)]


# By all pairs tried: for each number its pairs, in the order in which they rise.
def pairs_by_number():
    pairs = {number: [] for number in NUMBERS}
    for one in range(101):
        for other in range(one, 101):
            if SQUARES[one] + SQUARES[other] <= 10000:
                pairs[SQUARES[one] + SQUARES[other]].append((one, other))
    return pairs


PAIRS = pairs_by_number()


def sums_of_three():
    return {number + square for number in NUMBERS if PAIRS[number] for square in SQUARES if number + square <= 10000}


class TwoSquares(DoorCase):
    def test_of_every_number_a_two_or_a_bar_by_plain_reckoning(self):
        primes = set(primes_below(10001))
        for number in NUMBERS:
            told = two(number)
            self.assertIs(type(told), Two if PAIRS[number] else BarTwo, number)
            self.assertIs(told.shows(number), True, number)
            if PAIRS[number]:
                self.assertIn((told.one, told.other), PAIRS[number])
                self.whole(told.one)
                self.whole(told.other)
            else:
                self.whole(told.prime)
                self.whole(told.often)
                self.assertIn(told.prime, primes)
                self.assertEqual((told.prime % 4, told.often % 2), (3, 1), number)
                self.assertEqual(number % told.prime ** told.often, 0, number)
                self.assertNotEqual(number % told.prime ** (told.often + 1), 0, number)

    def test_ordinary_and_edges(self):
        for number, one, other in [(0, 0, 0), (1, 0, 1), (2, 1, 1), (9, 0, 3), (13, 2, 3), (8192, 64, 64)]:
            told = two(number)
            self.assertEqual((told.one, told.other), (one, other))
        for number, prime, often in [(3, 3, 1), (6, 3, 1), (27, 3, 3), (63, 7, 1), (2187, 3, 7), (9967, 9967, 1)]:
            told = two(number)
            self.assertEqual((told.prime, told.often), (prime, often))

    def test_what_is_no_number_is_refused(self):
        self.each_refused(BadNumber, two, NO_NUMBERS)


class ThreeSquares(DoorCase):
    def test_of_every_number_a_three_or_a_bar_by_plain_reckoning(self):
        sums = sums_of_three()
        for number in NUMBERS:
            told = three(number)
            self.assertIs(type(told), Three if number in sums else BarThree, number)
            self.assertIs(told.shows(number), True, number)
            if number in sums:
                self.assertIs(type(told.parts), list)
                self.assertEqual(len(told.parts), 3)
                self.assertTrue(0 <= told.parts[0] <= told.parts[1] <= told.parts[2], number)
                self.assertEqual(sum(part * part for part in told.parts), number)
                for part in told.parts:
                    self.whole(part)
            else:
                self.whole(told.fours)
                self.whole(told.eights)
                self.assertTrue(told.fours >= 0 and told.eights >= 0, number)
                self.assertEqual(4 ** told.fours * (8 * told.eights + 7), number)

    def test_ordinary_and_edges(self):
        for number, parts in [(0, [0, 0, 0]), (1, [0, 0, 1]), (3, [1, 1, 1]), (6, [1, 1, 2]), (12, [2, 2, 2])]:
            self.assertEqual(three(number).parts, parts)
        for number, fours, eights in [(7, 0, 0), (15, 0, 1), (28, 1, 0), (112, 2, 0), (7168, 5, 0), (9999, 0, 1249)]:
            told = three(number)
            self.assertEqual((told.fours, told.eights), (fours, eights))

    def test_what_is_no_number_is_refused(self):
        self.each_refused(BadNumber, three, NO_NUMBERS)


class FourSquares(DoorCase):
    def test_every_number_is_told_as_a_four(self):
        for number in NUMBERS:
            told = four(number)
            self.assertIs(type(told), Four, number)
            self.assertIs(told.shows(number), True, number)
            self.assertIs(type(told.parts), list)
            self.assertEqual(len(told.parts), 4)
            self.assertEqual(told.parts, sorted(told.parts))
            self.assertGreaterEqual(told.parts[0], 0)
            self.assertEqual(sum(part * part for part in told.parts), number)
            for part in told.parts:
                self.whole(part)

    def test_ordinary_and_edges(self):
        for number, parts in [(0, [0, 0, 0, 0]), (1, [0, 0, 0, 1]), (7, [1, 1, 1, 2]), (15, [1, 1, 2, 3])]:
            self.assertEqual(four(number).parts, parts)

    def test_what_is_no_number_is_refused(self):
        self.each_refused(BadNumber, four, NO_NUMBERS)


class Ways(DoorCase):
    def test_all_ways_of_every_number(self):
        for number in NUMBERS:
            told = ways(number)
            self.assertEqual(told, PAIRS[number])
            self.assertIs(type(told), list)
            for pair in told:
                self.assertIs(type(pair), tuple)
                self.whole(pair[0])
                self.whole(pair[1])

    def test_ordinary_and_edges(self):
        self.assertEqual(ways(0), [(0, 0)])
        self.assertEqual(ways(1), [(0, 1)])
        self.assertEqual(ways(2), [(1, 1)])
        self.assertEqual(ways(3), [])
        self.assertEqual(ways(25), [(0, 5), (3, 4)])
        self.assertEqual(ways(50), [(1, 7), (5, 5)])
        self.assertEqual(ways(5525), [(7, 74), (14, 73), (22, 71), (25, 70), (41, 62), (50, 55)])
        self.assertEqual(ways(10000), [(0, 100), (28, 96), (60, 80)])

    def test_there_are_ways_just_where_a_two_is_told(self):
        for number in NUMBERS:
            self.assertEqual(bool(ways(number)), isinstance(two(number), Two), number)

    def test_what_is_no_number_is_refused(self):
        self.each_refused(BadNumber, ways, NO_NUMBERS)


class Signed(DoorCase):
    def test_all_signed_pairs_counted(self):
        counted = [0] * 10001
        for one, other in itertools.product(range(-100, 101), repeat=2):
            if one * one + other * other <= 10000:
                counted[one * one + other * other] += 1
        for number in range(1, 10001):
            told = signed(number)
            self.assertEqual(told, counted[number], number)
            self.whole(told)

    def test_four_times_what_the_divisors_that_leave_1_are_more(self):
        more = [0] * 10001
        for divisor in range(1, 10001, 2):
            for number in range(divisor, 10001, divisor):
                more[number] += 1 if divisor % 4 == 1 else -1
        for number in range(1, 10001):
            self.assertEqual(signed(number), 4 * more[number], number)

    def test_ordinary_and_edges(self):
        for number, many in [(1, 4), (2, 4), (3, 0), (4, 4), (5, 8), (25, 12), (50, 12), (5525, 48), (10000, 20)]:
            self.assertEqual(signed(number), many)

    def test_0_and_what_is_no_number_are_refused(self):
        self.refused(BadNumber, signed, 0)
        self.each_refused(BadNumber, signed, NO_NUMBERS)


class Joined(DoorCase):
    # Straight by the words of point 6.
    def due(self, one, other):
        (a, b), (c, d) = one, other
        first = (max(a * c, b * d) - min(a * c, b * d), a * d + b * c)
        second = (a * c + b * d, max(a * d, b * c) - min(a * d, b * c))
        return (tuple(sorted(first)), tuple(sorted(second)))

    def held(self, one, other):
        told = joined(one, other)
        self.assertEqual(told, self.due(one, other), (one, other))
        self.assertIs(type(told), tuple)
        product = (one[0] ** 2 + one[1] ** 2) * (other[0] ** 2 + other[1] ** 2)
        for pair in told:
            self.assertIs(type(pair), tuple)
            self.assertEqual(len(pair), 2)
            self.assertTrue(0 <= pair[0] <= pair[1], (one, other))
            self.assertEqual(pair[0] ** 2 + pair[1] ** 2, product)
            self.whole(pair[0])
            self.whole(pair[1])

    def test_worked_by_hand(self):
        self.assertEqual(joined((1, 2), (3, 4)), ((5, 10), (2, 11)))
        self.assertEqual(joined((1, 2), (2, 3)), ((4, 7), (1, 8)))
        self.assertEqual(joined((2, 1), (2, 3)), ((1, 8), (4, 7)))
        self.assertEqual(joined((1, 2), (3, 2)), ((1, 8), (4, 7)))

    def test_noughts(self):
        self.assertEqual(joined((0, 0), (0, 0)), ((0, 0), (0, 0)))
        self.assertEqual(joined((0, 0), (3, 4)), ((0, 0), (0, 0)))
        self.assertEqual(joined((0, 1), (3, 4)), ((3, 4), (3, 4)))
        self.assertEqual(joined((3, 4), (0, 2)), ((6, 8), (6, 8)))
        self.assertEqual(joined((0, 5), (7, 0)), ((0, 35), (0, 35)))

    def test_like_pairs_and_like_numbers(self):
        self.assertEqual(joined((1, 2), (1, 2)), ((3, 4), (0, 5)))
        self.assertEqual(joined((1, 2), (2, 1)), ((0, 5), (3, 4)))
        self.assertEqual(joined((1, 1), (1, 1)), ((0, 2), (0, 2)))
        self.assertEqual(joined((1, 1), (2, 3)), ((1, 5), (1, 5)))

    def test_up_to_10000(self):
        self.assertEqual(joined((10000, 10000), (10000, 10000)), ((0, 200000000), (0, 200000000)))
        self.assertEqual(joined((0, 10000), (9999, 10000)), ((99990000, 100000000), (99990000, 100000000)))
        for numbers in itertools.product([0, 1, 2, 4999, 9999, 10000], repeat=4):
            self.held(numbers[:2], numbers[2:])

    def test_all_small_pairs(self):
        for numbers in itertools.product(range(9), repeat=4):
            self.held(numbers[:2], numbers[2:])

    def test_what_is_no_pair_is_refused_first_or_second(self):
        wrong = OF_NO_USE + WHOLE_BUT_BEYOND + [0, 5, "12", [1, 2], [0, 0], (1,), (1, 2, 3), (0, 0, 0), ((1, 2), (3, 4))]
        wrong += [(value, 1) for value in NO_NUMBER_INSIDE] + [(1, value) for value in NO_NUMBER_INSIDE]
        wrong += [(value, value) for value in NO_NUMBER_INSIDE]
        for place, value in enumerate(wrong):
            self.refused(BadParts, joined, value, (1, 2), place=place)
            self.refused(BadParts, joined, (1, 2), value, place=place)
            self.refused(BadParts, joined, value, value, place=place)


class ToldAnew(unittest.TestCase):
    def test_a_list_of_ways_may_be_changed(self):
        told = ways(25)
        told.append((9, 9))
        told[0] = None
        self.assertEqual(ways(25), [(0, 5), (3, 4)])
        told.clear()
        self.assertEqual(ways(25), [(0, 5), (3, 4)])
        self.assertEqual(signed(25), 12)
        self.assertIs(two(25).shows(25), True)

    def test_an_answer_may_be_changed(self):
        for door, number in [(two, 5), (two, 21), (three, 14), (three, 28), (four, 7), (four, 14)]:
            told = door(number)
            before = {name: list(value) if isinstance(value, list) else value for name, value in vars(told).items()}
            for name, value in vars(told).items():
                if isinstance(value, list):
                    value.append(77)
                    value[0] = 99
            self.assertEqual(vars(door(number)), before)
            for name in list(vars(told)):
                setattr(told, name, None)
            again = door(number)
            self.assertIsNot(again, told)
            self.assertEqual(vars(again), before)
            self.assertIs(again.shows(number), True)


class Arguments(unittest.TestCase):
    def test_they_bear_their_names(self):
        self.assertIs(two(number=5).shows(5), True)
        self.assertIs(three(number=5).shows(5), True)
        self.assertIs(four(number=5).shows(5), True)
        self.assertEqual(ways(number=5), [(1, 2)])
        self.assertEqual(signed(number=5), 8)
        self.assertEqual(joined(other=(3, 4), one=(1, 2)), ((5, 10), (2, 11)))


if __name__ == "__main__":
    unittest.main()
