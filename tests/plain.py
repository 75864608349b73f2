"""What several test files share: plain reckoning, values of many kinds, and how a refusal is looked at."""

import unittest

from squarefield.errors import SquareError

NUMBERS = range(10001)


def primes_below(bound):
    return [value for value in range(2, bound) if all(value % d for d in range(2, int(value ** 0.5) + 1))]


ODD_PRIMES = primes_below(1000)[1:]


# A value that may not even be compared, shown, counted or taken for a number.
class Stubborn:
    def fails(self, *handed):
        raise RuntimeError("not to be asked")

    __eq__ = __lt__ = __le__ = __gt__ = __ge__ = __repr__ = __str__ = __bool__ = __len__ = __iter__ = fails
    __int__ = __index__ = __hash__ = __getitem__ = __mul__ = __mod__ = __contains__ = fails


class ActsLikeFive:
    def __int__(self):
        return 5

    __index__ = __int__


def holding_itself():
    held = []
    held.append(held)
    return held


WHOLE_BUT_BEYOND = [-10 ** 5000, -10001, -10000, -5, -1, 10001, 10002, 10 ** 30, 10 ** 5000]

# None of these is a number, a pair, a walk, a list of parts or the text of a sum.
OF_NO_USE = [
    None, True, False, "", " ", "5", "1,2", "345", b"5", b"5 = 1^2 + 2^2", [], [None], ["1", "2"], [[1, 2]],
    (), (5,), (None, None), ("1", "2"), ("3", "4", "5"), ((1, 2),), (1, 2, 3), {}, {5: 5}, {1: 1, 2: 2}, set(),
    {1, 2}, frozenset([3, 4, 5]), 5.0, 0.0, -1.5, float("nan"), float("inf"), 5 + 0j, object(), len, int, list, ValueError,
    ValueError("5"), range(5), iter([1, 2]), Stubborn(), [Stubborn()], (Stubborn(), Stubborn()),
    (Stubborn(), Stubborn(), Stubborn()), ActsLikeFive(), holding_itself(), Ellipsis, NotImplemented,
]

NO_NUMBERS = OF_NO_USE + WHOLE_BUT_BEYOND + [
    "5 = 1^2 + 2^2", [5], [1, 2], (1, 2), (3, 4, 5), [3, 4, 5],
]

# Those that are handed in inside of a list or a tuple, where a number should stand.
NO_NUMBER_INSIDE = [None, True, False, "1", "", 1.0, [1], (1,), {}, -1, 10001, 10 ** 5000, Stubborn(), ActsLikeFive()]


class DoorCase(unittest.TestCase):
    # The place is shown, not the value: not every value can be written out.
    def refused(self, refusal, door, *handed, place=None):
        try:
            door(*handed)
        except Exception as error:
            self.assertIs(type(error), refusal, place)
            self.assertEqual(type(error).__mro__[1:4], (SquareError, ValueError, Exception))
            return
        self.fail(f"{door.__name__} did not refuse what stands at {place}")

    def each_refused(self, refusal, door, values):
        for place, value in enumerate(values):
            self.refused(refusal, door, value, place=place)

    def whole(self, value):
        self.assertIs(type(value), int)
