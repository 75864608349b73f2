"""Walks: two squares that together are a third one, and where they come from."""

from squarefield.errors import BadNumber, BadWalk
from squarefield.numbers import is_number, pairs_of, whole_root

MOST_THIRD = 300


# A pair of like numbers never comes up here: no square is twice another one above 0.
def walks(most):
    if not is_number(most) or most > MOST_THIRD:
        raise BadNumber("no whole number from 0 to 300")
    found = []
    for third in range(1, most + 1):
        for pair in pairs_of(third * third):
            if pair[0] > 0:
                found.append((pair[0], pair[1], third))
    return found


# Without what all three share, just one of the first two is odd. That one is m m
# less n n, the third is m m and n n together: this gives both squares.
def source(walk):
    if not is_walk(walk):
        raise BadWalk("no three rising whole numbers from 1 to 10000, two squares together the third")
    shared = common_divisor(walk[0], walk[1])
    first = walk[0] // shared
    second = walk[1] // shared
    third = walk[2] // shared
    odd = first if first % 2 == 1 else second
    return (whole_root((third + odd) // 2), whole_root((third - odd) // 2), shared)


def is_walk(value):
    if not isinstance(value, tuple) or len(value) != 3 or not all([is_number(side) for side in value]):
        return False
    if not 0 < value[0] < value[1] < value[2]:
        return False
    return value[0] * value[0] + value[1] * value[1] == value[2] * value[2]


# What goes into the first two goes into the third as well, so two are enough.
def common_divisor(one, other):
    greater = max(one, other)
    lesser = min(one, other)
    while lesser > 0:
        left = greater % lesser
        greater = lesser
        lesser = left
    return greater
