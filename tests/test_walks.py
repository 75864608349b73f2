"""Walks, and the source of each."""

import itertools
import math
import unittest

from plain import NO_NUMBER_INSIDE, NO_NUMBERS, OF_NO_USE, WHOLE_BUT_BEYOND, DoorCase
from squarefield.errors import BadNumber, BadWalk
from squarefield.walks import source, walks


def walks_by_all_numbers_tried(most):
    found = []
    for third in range(1, most + 1):
        for first in range(1, third):
            for second in range(first + 1, third):
                if first * first + second * second == third * third:
                    found.append((first, second, third))
    return found


# By pairs of first and second, without any source: what walks there are up to a third.
def walks_by_whole_roots(most):
    found = set()
    for first in range(1, most):
        for second in range(first + 1, math.isqrt(most * most - first * first) + 1):
            third = math.isqrt(first * first + second * second)
            if first * first + second * second == third * third:
                found.add((first, second, third))
    return found


# By all sources tried, in the words of point 10: for each walk its sources.
def sources_by_walk(most):
    sources = {}
    for m in range(2, math.isqrt(most) + 1):
        for n in range(1, m):
            if math.gcd(m, n) == 1 and (m % 2 == 0 or n % 2 == 0):
                for k in range(1, most // (m * m + n * n) + 1):
                    legs = sorted([k * (m * m - n * n), k * 2 * m * n])
                    sources.setdefault((legs[0], legs[1], k * (m * m + n * n)), []).append((m, n, k))
    return sources


class Walks(DoorCase):
    def test_for_every_number_from_0_to_300_against_all_numbers_tried(self):
        every = walks_by_all_numbers_tried(300)
        for most in range(301):
            told = walks(most)
            self.assertEqual(told, [walk for walk in every if walk[2] <= most], most)
            self.assertIs(type(told), list)
        for walk in walks(300):
            self.assertIs(type(walk), tuple)
            for side in walk:
                self.whole(side)

    def test_the_order_is_by_thirds_then_firsts(self):
        told = walks(300)
        self.assertEqual(told, sorted(told, key=lambda walk: (walk[2], walk[0])))
        self.assertEqual([walk for walk in told if walk[2] == 65], [(16, 63, 65), (25, 60, 65), (33, 56, 65), (39, 52, 65)])

    def test_ordinary_and_edges(self):
        for most in range(5):
            self.assertEqual(walks(most), [])
        self.assertEqual(walks(5), [(3, 4, 5)])
        self.assertEqual(walks(13), [(3, 4, 5), (6, 8, 10), (5, 12, 13)])
        self.assertEqual(walks(25)[-2:], [(7, 24, 25), (15, 20, 25)])
        self.assertEqual(walks(300)[-2:], [(84, 288, 300), (180, 240, 300)])

    def test_what_is_no_number_or_above_300_is_refused(self):
        self.each_refused(BadNumber, walks, NO_NUMBERS)
        self.each_refused(BadNumber, walks, [301, 302, 1000, 9999, 10000])

    def test_a_list_that_was_told_may_be_changed(self):
        told = walks(10)
        told.append((1, 1, 1))
        told[0] = None
        self.assertEqual(walks(10), [(3, 4, 5), (6, 8, 10)])
        self.assertEqual(walks(most=10), [(3, 4, 5), (6, 8, 10)])


class Sources(DoorCase):
    def held(self, walk):
        told = source(walk)
        self.assertIs(type(told), tuple)
        self.assertEqual(len(told), 3)
        m, n, k = told
        for number in told:
            self.whole(number)
        self.assertTrue(m > n > 0 and k > 0, walk)
        self.assertEqual(math.gcd(m, n), 1, walk)
        self.assertEqual((m * n) % 2, 0, walk)
        self.assertEqual(sorted([k * (m * m - n * n), k * 2 * m * n]), [walk[0], walk[1]])
        self.assertEqual(k * (m * m + n * n), walk[2])

    def test_of_every_walk_up_to_10000(self):
        for walk, sources in sources_by_walk(10000).items():
            self.assertEqual([source(walk)], sources, walk)
            self.held(walk)

    def test_each_walk_has_just_one(self):
        sources = sources_by_walk(1500)
        self.assertEqual(set(sources), walks_by_whole_roots(1500))
        for walk, told in sources.items():
            self.assertEqual(len(told), 1, walk)

    def test_of_what_walks_tells(self):
        for walk in walks(300):
            self.held(walk)

    def test_worked_by_hand(self):
        for walk, due in [
            ((3, 4, 5), (2, 1, 1)), ((6, 8, 10), (2, 1, 2)), ((5, 12, 13), (3, 2, 1)), ((8, 15, 17), (4, 1, 1)),
            ((9, 12, 15), (2, 1, 3)), ((20, 21, 29), (5, 2, 1)), ((6000, 8000, 10000), (2, 1, 2000)),
            ((2800, 9600, 10000), (4, 3, 400)),
        ]:
            self.assertEqual(source(walk), due)

    def test_of_small_numbers_just_the_walks(self):
        found = []
        for sides in itertools.product(range(27), repeat=3):
            try:
                source(sides)
            except BadWalk:
                continue
            found.append(sides)
        self.assertEqual(sorted(found), sorted(walks_by_all_numbers_tried(26)))

    def test_what_is_no_walk_is_refused(self):
        self.each_refused(BadWalk, source, OF_NO_USE + WHOLE_BUT_BEYOND)
        self.each_refused(BadWalk, source, [
            5, "345", "3, 4, 5", [3, 4, 5], (3, 4), (3, 4, 5, 0), (0, 3, 4, 5), ((3, 4, 5),), (4, 3, 5), (5, 4, 3),
            (3, 5, 4), (0, 5, 5), (0, 0, 0), (5, 5, 5), (1, 1, 2), (-3, 4, 5), (3, 4, -5), (-4, -3, 5), (-5, -4, -3),
            (3, 4, 6), (3, 4, 4), (2, 4, 5), (3.0, 4.0, 5.0), ("3", "4", "5"), {3, 4, 5}, {3: 4, 4: 5, 5: 3},
            range(3, 6), (True, False, True),
        ])
        for value in NO_NUMBER_INSIDE:
            self.each_refused(BadWalk, source, [(value, 4, 5), (3, value, 5), (3, 4, value), (value, value, value)])

    def test_walks_beyond_10000_are_refused(self):
        self.assertEqual(source((2800, 9600, 10000)), (4, 3, 400))
        for walk in [(200, 9999, 10001), (3 * 2001, 4 * 2001, 5 * 2001), (30000, 40000, 50000), (6003, 8004, 10005)]:
            self.refused(BadWalk, source, walk, place=walk)
        self.refused(BadWalk, source, (3 * 10 ** 5000, 4 * 10 ** 5000, 5 * 10 ** 5000))

    def test_the_argument_bears_its_name(self):
        self.assertEqual(source(walk=(3, 4, 5)), (2, 1, 1))


if __name__ == "__main__":
    unittest.main()
