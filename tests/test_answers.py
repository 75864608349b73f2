"""What the answers tell, and whether shows says so."""

import itertools
import unittest

from plain import NUMBERS, ODD_PRIMES, primes_below
from squarefield.answers import Answer, BarThree, BarTwo, Chain, Four, Root, Three, Two

CLASSES = [Two, BarTwo, Three, BarThree, Four, Root, Chain]
STEPS = ["rest", "half", "turn"]


class AnswerCase(unittest.TestCase):
    def shown(self, answer, *asked):
        self.assertIs(answer.shows(*asked), True, (vars(answer), asked))

    def barred(self, answer, *asked):
        self.assertIs(answer.shows(*asked), False, (vars(answer), asked))


class Classes(unittest.TestCase):
    def test_each_stands_straight_under_answer(self):
        self.assertEqual(Answer.__bases__, (object,))
        for answer in CLASSES:
            self.assertEqual(answer.__bases__, (Answer,), answer)

    def test_none_is_another(self):
        made = [Two(1, 2), BarTwo(3, 1), Three([0, 0, 1]), BarThree(0, 0), Four([0, 0, 0, 1]), Root(1), Chain([])]
        for place, answer in enumerate(made):
            self.assertIsInstance(answer, Answer)
            for other, kind in enumerate(CLASSES):
                self.assertEqual(isinstance(answer, kind), place == other)


class Fields(unittest.TestCase):
    def test_each_field_is_there_under_its_name(self):
        self.assertEqual(vars(Two(1, 2)), {"one": 1, "other": 2})
        self.assertEqual(vars(BarTwo(3, 5)), {"prime": 3, "often": 5})
        self.assertEqual(vars(Three([1, 2, 3])), {"parts": [1, 2, 3]})
        self.assertEqual(vars(BarThree(1, 2)), {"fours": 1, "eights": 2})
        self.assertEqual(vars(Four([1, 2, 3, 4])), {"parts": [1, 2, 3, 4]})
        self.assertEqual(vars(Root(4)), {"root": 4})
        self.assertEqual(vars(Chain(["rest", "half"])), {"steps": ["rest", "half"]})

    def test_the_arguments_bear_the_same_names(self):
        self.assertEqual(vars(Two(other=2, one=1)), {"one": 1, "other": 2})
        self.assertEqual(vars(BarTwo(often=5, prime=3)), {"prime": 3, "often": 5})
        self.assertEqual(vars(Three(parts=[1])), {"parts": [1]})
        self.assertEqual(vars(BarThree(eights=2, fours=1)), {"fours": 1, "eights": 2})
        self.assertEqual(vars(Four(parts=[1])), {"parts": [1]})
        self.assertEqual(vars(Root(root=4)), {"root": 4})
        self.assertEqual(vars(Chain(steps=["rest"])), {"steps": ["rest"]})
        self.assertIs(Two(1, 2).shows(number=5), True)
        self.assertIs(BarTwo(3, 1).shows(number=3), True)
        self.assertIs(Three([0, 1, 2]).shows(number=5), True)
        self.assertIs(BarThree(0, 0).shows(number=7), True)
        self.assertIs(Four([0, 0, 1, 2]).shows(number=5), True)
        self.assertIs(Root(1).shows(prime=3, number=1), True)
        self.assertIs(Chain(["half"]).shows(prime=3, number=2), True)

    def test_a_list_changed_afterwards_does_not_change_the_answer(self):
        for kind, given, added in [(Three, [0, 1, 2], 9), (Four, [0, 0, 1, 2], 9)]:
            handed = list(given)
            answer = kind(handed)
            handed.append(added)
            handed[0] = 7
            self.assertEqual(answer.parts, given)
            self.assertIs(answer.shows(5), True)
        handed = ["half"]
        chain = Chain(handed)
        handed.append("rest")
        handed[0] = "turn"
        self.assertEqual(chain.steps, ["half"])
        self.assertIs(chain.shows(2, 3), True)

    def test_a_list_handed_in_is_not_changed(self):
        parts = [2, 1, 0]
        Three(parts).shows(5)
        self.assertEqual(parts, [2, 1, 0])
        parts = [2, 1, 0, 0]
        Four(parts).shows(5)
        self.assertEqual(parts, [2, 1, 0, 0])
        steps = ["half", "turn"]
        Chain(steps).shows(2, 3)
        self.assertEqual(steps, ["half", "turn"])

    def test_asking_changes_no_field(self):
        for answer, asked in [
            (Two(2, 1), (5,)), (BarTwo(3, 1), (21,)), (Three([2, 1, 0]), (5,)), (BarThree(2, 1), (240,)),
            (Four([2, 1, 0, 0]), (5,)), (Root(1), (1, 7)), (Chain(["rest", "turn", "rest"]), (10, 7)),
        ]:
            before = {name: list(value) if isinstance(value, list) else value for name, value in vars(answer).items()}
            first = answer.shows(*asked)
            self.assertEqual(vars(answer), before)
            self.assertIs(answer.shows(*asked), first)


class ChangedFields(AnswerCase):
    def test_two(self):
        answer = Two(1, 2)
        self.shown(answer, 5)
        answer.one = 2
        self.barred(answer, 5)
        self.shown(answer, 8)
        answer.other = 3
        self.shown(answer, 13)

    def test_bar_two(self):
        answer = BarTwo(3, 1)
        self.shown(answer, 21)
        answer.prime = 7
        self.shown(answer, 21)
        self.barred(answer, 3)
        answer.often = 3
        self.barred(answer, 21)
        self.shown(answer, 343)

    def test_parts(self):
        for answer in [Three([0, 1, 2]), Four([0, 0, 1, 2])]:
            self.shown(answer, 5)
            answer.parts[-1] = 3
            self.barred(answer, 5)
            self.shown(answer, 10)
            answer.parts.append(4)
            self.barred(answer, 10)
            self.barred(answer, 26)
            answer.parts = [0] * (len(answer.parts) - 2) + [2]
            self.shown(answer, 4)

    def test_bar_three(self):
        answer = BarThree(0, 0)
        self.shown(answer, 7)
        answer.fours = 1
        self.barred(answer, 7)
        self.shown(answer, 28)
        answer.eights = 1
        self.shown(answer, 60)

    def test_root(self):
        answer = Root(1)
        self.shown(answer, 1, 7)
        answer.root = 3
        self.barred(answer, 1, 7)
        self.shown(answer, 2, 7)

    def test_chain(self):
        answer = Chain([])
        self.barred(answer, 2, 3)
        answer.steps.append("half")
        self.shown(answer, 2, 3)
        answer.steps = ["rest"]
        self.barred(answer, 2, 3)


class TwoShows(AnswerCase):
    def test_ordinary_and_edges(self):
        for one, other, number in [(0, 0, 0), (0, 1, 1), (1, 1, 2), (1, 2, 5), (0, 100, 10000), (60, 80, 10000)]:
            self.shown(Two(one, other), number)
            self.barred(Two(one, other), number + 1)
            self.barred(Two(one, other), number - 1)
            self.barred(Two(one + 1, other), number)
            self.barred(Two(one, other + 1), number)
            self.barred(Two(one - 1, other), number)
            self.barred(Two(one, other - 1), number)

    def test_the_greater_first(self):
        self.barred(Two(2, 1), 5)
        self.barred(Two(100, 0), 10000)

    def test_below_0(self):
        self.barred(Two(-1, 2), 5)
        self.barred(Two(-2, 1), 5)
        self.barred(Two(-2, -1), 5)
        self.barred(Two(-1, 0), 1)

    def test_all_small_fields(self):
        for one, other in itertools.product(range(-8, 9), repeat=2):
            answer = Two(one, other)
            for number in range(-130, 131):
                due = one >= 0 and one <= other and one * one + other * other == number
                self.assertIs(answer.shows(number), due, (one, other, number))


class BarTwoShows(AnswerCase):
    def test_ordinary_and_edges(self):
        for prime, often, number in [
            (3, 1, 3), (3, 1, 6), (3, 1, 21), (7, 1, 21), (3, 3, 27), (7, 1, 63), (3, 7, 2187), (3, 7, 8748),
            (11, 3, 1331), (19, 3, 6859), (9967, 1, 9967),
        ]:
            self.shown(BarTwo(prime, often), number)
            for other in [often - 1, often + 1, often - 2, often + 2, -often, 0]:
                self.barred(BarTwo(prime, other), number)

    def test_an_even_number_of_times(self):
        self.barred(BarTwo(3, 2), 9)
        self.barred(BarTwo(3, 1), 9)
        self.barred(BarTwo(3, 2), 63)
        self.barred(BarTwo(3, 4), 81)
        self.barred(BarTwo(7, 2), 49)

    def test_0_times(self):
        for number in [0, 1, 2, 5, 7, 10]:
            self.barred(BarTwo(3, 0), number)

    def test_no_prime(self):
        for value in [-10000, -21, -9, -7, -5, -3, -1, 0, 1, 2, 4, 6, 8, 9, 10, 15, 21, 27, 35, 10000]:
            for number in [0, 1, abs(value), 3 * abs(value)]:
                for often in [-1, 0, 1, 2, 3]:
                    self.barred(BarTwo(value, often), number)

    def test_primes_that_leave_1_by_4_or_2(self):
        for prime in [2, 5, 13, 17, 29, 97]:
            self.barred(BarTwo(prime, 1), prime)
            self.barred(BarTwo(prime, 1), 3 * prime)

    def test_nothing_bars_0(self):
        for often in range(-3, 20):
            self.barred(BarTwo(3, often), 0)
            self.barred(BarTwo(7, often), 0)

    def test_no_number_is_asked_of(self):
        for number in [-3, -7, -21, -27, -10000]:
            for often in [-1, 0, 1, 3]:
                self.barred(BarTwo(3, often), number)
                self.barred(BarTwo(-3, often), number)

    def test_all_small_fields(self):
        primes = primes_below(60)
        for prime in range(-60, 60):
            for number in range(-60, 250):
                times = 0
                if prime in primes and prime % 4 == 3 and number > 0:
                    while number % prime ** (times + 1) == 0:
                        times += 1
                for often in range(-2, 7):
                    due = often == times and times % 2 == 1
                    self.assertIs(BarTwo(prime, often).shows(number), due, (prime, often, number))

    def test_of_each_number_a_two_or_a_bar_but_not_both(self):
        sums = {one * one + other * other: (one, other) for other in range(101) for one in range(other + 1)}
        bars = {}
        for prime in primes_below(10001):
            if prime % 4 == 3:
                for number in range(prime, 10001, prime):
                    bars.setdefault(number, []).append(prime)
        for number in NUMBERS:
            two = number in sums and Two(*sums[number]).shows(number)
            found = [1 for prime in bars.get(number, []) for often in range(1, 9) if BarTwo(prime, often).shows(number)]
            self.assertEqual(two, not found, number)


class ThreeShows(AnswerCase):
    def test_ordinary_and_edges(self):
        for parts, number in [
            ([0, 0, 0], 0), ([0, 0, 1], 1), ([1, 1, 1], 3), ([1, 2, 3], 14), ([0, 0, 100], 10000), ([0, 60, 80], 10000),
        ]:
            self.shown(Three(parts), number)
            self.barred(Three(parts), number + 1)
            self.barred(Three(parts), number - 1)
            for place in range(3):
                for more in [1, -1]:
                    other = list(parts)
                    other[place] += more
                    self.barred(Three(other), number)

    def test_another_order(self):
        for parts in itertools.permutations([1, 2, 3]):
            self.assertIs(Three(list(parts)).shows(14), parts == (1, 2, 3))
        for parts in itertools.permutations([2, 2, 3]):
            self.assertIs(Three(list(parts)).shows(17), parts == (2, 2, 3))

    def test_below_0(self):
        self.barred(Three([-3, 1, 2]), 14)
        self.barred(Three([-1, 2, 3]), 14)
        self.barred(Three([-3, -2, -1]), 14)
        self.barred(Three([-1, 0, 0]), 1)

    def test_other_lengths(self):
        self.barred(Three([]), 0)
        self.barred(Three([0]), 0)
        self.barred(Three([0, 0]), 0)
        self.barred(Three([0, 0, 0, 0]), 0)
        self.barred(Three([1, 2]), 5)
        self.barred(Three([0, 0, 1, 2]), 5)
        self.barred(Three([0, 0, 0, 1, 2]), 5)
        self.barred(Three([2, 4, 6, 8, 10]), 220)

    def test_all_small_fields(self):
        for parts in itertools.product(range(-4, 5), repeat=3):
            answer = Three(list(parts))
            for number in range(-50, 50):
                due = 0 <= parts[0] <= parts[1] <= parts[2] and sum(part ** 2 for part in parts) == number
                self.assertIs(answer.shows(number), due, (parts, number))


class BarThreeShows(AnswerCase):
    def test_ordinary_and_edges(self):
        for fours, eights, number in [
            (0, 0, 7), (0, 1, 15), (1, 0, 28), (1, 1, 60), (2, 0, 112), (5, 0, 7168), (0, 1249, 9999), (2, 77, 9968),
        ]:
            self.shown(BarThree(fours, eights), number)
            self.barred(BarThree(fours, eights), number + 1)
            self.barred(BarThree(fours, eights), number - 1)
            self.barred(BarThree(fours + 1, eights), number)
            self.barred(BarThree(fours - 1, eights), number)
            self.barred(BarThree(fours, eights + 1), number)
            self.barred(BarThree(fours, eights - 1), number)

    def test_below_0(self):
        self.barred(BarThree(0, -1), -1)
        self.barred(BarThree(1, -1), -4)
        self.barred(BarThree(-1, 0), 7)
        self.barred(BarThree(-1, 3), 7)
        self.barred(BarThree(-1, 0), 1)

    def test_great_fields(self):
        for number in [0, 7, 28, 4096, 10000, -7, -10000]:
            self.barred(BarThree(10000, 0), number)
            self.barred(BarThree(10000, 10000), number)
            self.barred(BarThree(0, 10000), number)
            self.barred(BarThree(-10000, -10000), number)

    def test_all_small_fields(self):
        for fours, eights in itertools.product(range(-3, 6), range(-3, 12)):
            for number in range(-200, 800):
                due = fours >= 0 and eights >= 0 and 4 ** max(fours, 0) * (8 * eights + 7) == number
                self.assertIs(BarThree(fours, eights).shows(number), due, (fours, eights, number))

    def test_of_each_number_a_three_or_a_bar_but_not_both(self):
        squares = [value * value for value in range(101)]
        sums = {}
        for third in range(101):
            for second in range(third + 1):
                for first in range(second + 1):
                    number = squares[first] + squares[second] + squares[third]
                    if number > 10000:
                        break
                    sums[number] = [first, second, third]
        bars = {4 ** fours * (8 * eights + 7): (fours, eights) for fours in range(7) for eights in range(1250)}
        for number in NUMBERS:
            three = number in sums and Three(sums[number]).shows(number)
            bar = number in bars and BarThree(*bars[number]).shows(number)
            self.assertNotEqual(three, bar, number)


class FourShows(AnswerCase):
    def test_ordinary_and_edges(self):
        for parts, number in [
            ([0, 0, 0, 0], 0), ([0, 0, 0, 1], 1), ([1, 1, 1, 2], 7), ([1, 2, 3, 4], 30), ([50, 50, 50, 50], 10000),
            ([0, 0, 0, 100], 10000),
        ]:
            self.shown(Four(parts), number)
            self.barred(Four(parts), number + 1)
            self.barred(Four(parts), number - 1)
            for place in range(4):
                for more in [1, -1]:
                    other = list(parts)
                    other[place] += more
                    self.barred(Four(other), number)

    def test_another_order(self):
        for parts in itertools.permutations([1, 2, 3, 4]):
            self.assertIs(Four(list(parts)).shows(30), parts == (1, 2, 3, 4))

    def test_below_0(self):
        self.barred(Four([-1, 1, 1, 2]), 7)
        self.barred(Four([-2, 1, 1, 1]), 7)
        self.barred(Four([-2, -1, -1, -1]), 7)

    def test_other_lengths(self):
        self.barred(Four([]), 0)
        self.barred(Four([0]), 0)
        self.barred(Four([0, 0, 0]), 0)
        self.barred(Four([0, 0, 0, 0, 0]), 0)
        self.barred(Four([1, 2, 3]), 14)
        self.barred(Four([0, 0, 1, 2, 3]), 14)

    def test_all_small_fields(self):
        for parts in itertools.product(range(-2, 4), repeat=4):
            answer = Four(list(parts))
            for number in range(-37, 37):
                due = 0 <= parts[0] <= parts[1] <= parts[2] <= parts[3] and sum(part ** 2 for part in parts) == number
                self.assertIs(answer.shows(number), due, (parts, number))

    def test_each_number_can_be_told_as_a_four(self):
        pairs = {one * one + other * other: [one, other] for other in range(101) for one in range(other + 1)}
        rising = sorted(pairs)
        for number in NUMBERS:
            first = next(value for value in rising if number - value in pairs)
            self.shown(Four(sorted(pairs[first] + pairs[number - first])), number)


class RootShows(AnswerCase):
    def test_ordinary_and_edges(self):
        for root, number, prime in [
            (0, 0, 3), (1, 1, 3), (1, 10000, 3), (3, 2, 7), (0, 14, 7), (3, 9, 7), (0, 997, 997), (498, 249001 % 997, 997),
        ]:
            self.shown(Root(root), number, prime)
            self.barred(Root(root), number + 1, prime)
            self.barred(Root(root + 1), number, prime)
            self.barred(Root(root - 1), number, prime)

    def test_a_root_above_half_the_prime(self):
        self.shown(Root(3), 2, 7)
        self.barred(Root(4), 2, 7)
        self.barred(Root(7), 0, 7)
        self.barred(Root(10), 2, 7)
        self.barred(Root(2), 1, 3)
        self.barred(Root(499), 499 * 499 % 997, 997)

    def test_below_0(self):
        self.barred(Root(-1), 1, 3)
        self.barred(Root(-3), 2, 7)
        self.barred(Root(2), -1, 5)
        self.barred(Root(0), -7, 7)
        self.barred(Root(1), 1, -3)

    def test_no_odd_prime_below_1000(self):
        for prime in [-10000, -997, -7, -3, -1, 0, 1, 2, 4, 9, 15, 21, 25, 999, 1000, 1001, 1009, 9973, 10000]:
            for root in [0, 1]:
                self.barred(Root(root), root, prime)

    def test_all_small_fields(self):
        primes = [3, 5, 7, 11, 13]
        for prime in range(-15, 16):
            for root in range(-4, 10):
                for number in range(-30, 40):
                    due = prime in primes and number >= 0 and 0 <= 2 * root <= prime
                    due = due and (root * root - number) % prime == 0
                    self.assertIs(Root(root).shows(number, prime), due, (root, number, prime))


def chain_of(number, prime):
    """Steps towards an upper 1, or None where the upper number gets to 0."""
    upper, lower, steps = number, prime, []
    while upper != 1:
        if upper >= lower:
            upper = upper % lower
            steps.append("rest")
        elif upper == 0:
            return None
        elif upper % 2 == 0:
            upper = upper // 2
            steps.append("half")
        else:
            upper, lower = lower, upper
            steps.append("turn")
    return steps


class ChainShows(AnswerCase):
    def test_ordinary_and_edges(self):
        self.shown(Chain(["half"]), 2, 3)
        self.shown(Chain(["half"]), 2, 5)
        self.shown(Chain(["rest", "half"]), 5, 3)
        self.shown(Chain(["turn", "rest"]), 3, 7)
        self.shown(Chain(["turn", "rest", "half"]), 3, 5)
        self.shown(Chain(["rest", "turn", "rest"]), 10, 7)
        self.shown(Chain(["rest", "rest", "half", "rest"]), 5, 3)

    def test_the_mark_must_be_changed_an_odd_number_of_times(self):
        self.barred(Chain(["half"]), 2, 7)
        self.barred(Chain(["half", "half"]), 4, 3)
        self.barred(Chain(["rest"]), 4, 3)
        self.shown(Chain(["half", "half", "half"]), 8, 3)
        self.barred(Chain(["turn", "rest", "half"]), 3, 11)
        self.barred(Chain(["turn", "rest"]), 5, 11)

    def test_the_steps_must_lead_to_an_upper_1(self):
        self.barred(Chain(["half"]), 6, 3)
        self.barred(Chain(["half"]), 4, 3)
        self.barred(Chain(["turn"]), 3, 7)
        self.barred(Chain(["half", "turn"]), 2, 3)
        self.barred(Chain(["half", "turn", "rest"]), 2, 3)
        self.barred(Chain(["turn", "rest", "turn"]), 3, 7)
        self.shown(Chain(["turn", "rest", "rest"]), 3, 7)

    def test_the_empty_list_of_steps(self):
        for number in [-1, 0, 1, 2, 3]:
            for prime in [3, 5, 7, 997]:
                self.barred(Chain([]), number, prime)

    def test_steps_that_cannot_be_done(self):
        self.barred(Chain(["turn", "half"]), 2, 3)
        self.barred(Chain(["half", "half"]), 2, 3)
        self.barred(Chain(["half", "half", "half"]), 2, 3)
        self.barred(Chain(["half", "half", "rest"]), 2, 3)
        self.barred(Chain(["rest", "half"]), 3, 3)
        self.barred(Chain(["half"]), 0, 3)
        self.barred(Chain(["turn"]), 0, 3)
        self.barred(Chain(["half"]), 1, 3)

    def test_words_that_are_no_step(self):
        for word in ["", "Half", "HALF", "half ", " half", "hal", "halves", "rests", "mark", "0", "1"]:
            self.barred(Chain([word]), 2, 3)
            self.barred(Chain(["half", word]), 2, 3)
            self.barred(Chain([word, "half"]), 2, 3)

    def test_numbers_in_the_place_of_words(self):
        self.barred(Chain([1]), 2, 3)
        self.barred(Chain(["half", 0]), 2, 3)

    def test_no_number_is_asked_of(self):
        for number in [-1, -2, -4, -10000]:
            self.barred(Chain(["rest", "half"]), number, 3)
            self.barred(Chain(["rest", "half"]), number, 5)

    def test_no_odd_prime_below_1000(self):
        for prime in [-10000, -11, -5, -3, -1, 0, 1, 2, 4, 9, 15, 21, 35, 45, 1000, 1013, 1019, 9973, 10000]:
            self.barred(Chain(["half"]), 2, prime)
            self.barred(Chain(["rest"]), 1, prime)
            self.barred(Chain(["turn", "rest", "half"]), 3, prime)
            self.barred(Chain(["turn", "rest"]), 3, prime)

    def test_many_steps(self):
        self.shown(Chain(["half"] + ["rest"] * 10000), 2, 3)
        self.barred(Chain(["rest"] * 10000 + ["turn"]), 2, 3)

    def test_a_chain_is_shown_of_no_number_that_has_a_root(self):
        for length in range(8):
            for steps in itertools.product(STEPS, repeat=length):
                answer = Chain(list(steps))
                for prime in [3, 5, 7, 11]:
                    for number in range(prime + 3):
                        if answer.shows(number, prime):
                            self.assertEqual(pow(number, (prime - 1) // 2, prime), prime - 1, (steps, number, prime))

    def test_of_each_number_and_prime_a_root_or_a_chain_but_not_both(self):
        for prime in ODD_PRIMES:
            roots = {root * root % prime: root for root in range(prime // 2 + 1)}
            for number in list(range(prime + 2)) + [9999, 10000]:
                root = number % prime in roots and Root(roots[number % prime]).shows(number, prime)
                steps = chain_of(number, prime)
                chain = steps is not None and Chain(steps).shows(number, prime)
                self.assertNotEqual(root, chain, (number, prime))


class AnyFields(unittest.TestCase):
    """Fields of any of the kinds that may be asked with: nothing is raised, True or False is told."""

    NUMBERS = [-10000, -9, -3, -1, 0, 1, 2, 3, 7, 9, 21, 997, 9967, 10000]
    LISTS = [
        [], [0], [1], [3], [0, 0], [1, 2], [0, 0, 0], [0, 0, 0, 0], [-1, 0, 1], [10000] * 3, [10000] * 4, [-10000] * 4,
        [0] * 5, ["rest"], ["half"], ["turn"], ["a", "b", "c"], ["1", "2", "3", "4"], ["", "rest"],
        ["turn", "half", "rest"], [""] * 50,
    ]

    def told(self, answer, *asked):
        told = answer.shows(*asked)
        self.assertTrue(told is True or told is False, (vars(answer), asked, told))
        return told

    def test_one_field(self):
        for field in self.NUMBERS + self.LISTS:
            for number in self.NUMBERS:
                for answer in [Three(field), Four(field)]:
                    told = self.told(answer, number)
                    self.assertTrue(isinstance(field, list) or told is False)
                for prime in self.NUMBERS:
                    self.assertTrue(not isinstance(field, list) or self.told(Root(field), number, prime) is False)
                    self.assertTrue(isinstance(field, list) or self.told(Chain(field), number, prime) is False)
                    self.told(Root(field), number, prime)
                    self.told(Chain(field), number, prime)

    def test_two_fields(self):
        for one, other in itertools.product(self.NUMBERS + self.LISTS, repeat=2):
            for number in self.NUMBERS:
                for answer in [Two(one, other), BarTwo(one, other), BarThree(one, other)]:
                    told = self.told(answer, number)
                    if isinstance(one, list) or isinstance(other, list):
                        self.assertIs(told, False)

    def test_true_and_false_are_no_numbers(self):
        for answer, asked in [
            (Two(False, 1), (1,)), (Two(0, True), (1,)), (Two(0, 1), (True,)), (Two(0, 0), (False,)),
            (BarTwo(3, True), (3,)), (Three([False, 0, 1]), (1,)), (Three([0, 0, True]), (1,)),
            (Three([0, 0, 1]), (True,)), (BarThree(False, 0), (7,)), (BarThree(0, False), (7,)),
            (BarThree(True, 0), (28,)), (Four([0, 0, 0, True]), (1,)), (Four([0, 0, 0, 0]), (False,)),
            (Root(True), (1, 3)), (Root(1), (True, 3)), (Root(False), (0, 3)), (Root(0), (False, 3)),
            (Chain(["turn", "rest"]), (True, 3)),
        ]:
            self.assertIs(answer.shows(*asked), False, (vars(answer), asked))


if __name__ == "__main__":
    unittest.main()
