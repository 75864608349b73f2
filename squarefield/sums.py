"""Numbers put together of two, three or four squares, or what bars them."""

from squarefield.answers import BarThree, BarTwo, Four, Three, Two
from squarefield.errors import BadNumber, BadParts
from squarefield.numbers import is_number, pairs_of, primes_in, refuse_no_number, times_in


def two(number):
    refuse_no_number(number)
    pairs = pairs_of(number)
    if len(pairs) > 0:
        return Two(pairs[0][0], pairs[0][1])
    return bar_of_two(number)


# Asked only of a number without a pair: some prime always bars such a one.
def bar_of_two(number):
    barring = [prime for prime in primes_in(number) if prime % 4 == 3 and times_in(prime, number) % 2 == 1]
    return BarTwo(barring[0], times_in(barring[0], number))


def three(number):
    refuse_no_number(number)
    bar = bar_of_three(number)
    if bar is None:
        return Three(three_parts(number))
    return bar


# None if nothing bars the number.
def bar_of_three(number):
    fours = 0
    left = number
    while left > 0 and left % 4 == 0:
        left = left // 4
        fours = fours + 1
    if left % 8 == 7:
        return BarThree(fours, left // 8)
    return None


# Asked only of a number that nothing bars, so that some part leaves a pair.
def three_parts(number):
    part = 0
    pairs = pairs_of(number)
    while len(pairs) == 0:
        part = part + 1
        pairs = pairs_of(number - part * part)
    return sorted([part, pairs[0][0], pairs[0][1]])


# A number 4 .. 4 (8 n + 7) less the square 4 .. 4 is 4 .. 4 (8 n + 6), which nothing
# bars: so the search for the first part always ends.
def four(number):
    refuse_no_number(number)
    part = 0
    while bar_of_three(number - part * part) is not None:
        part = part + 1
    return Four(sorted([part] + three_parts(number - part * part)))


def ways(number):
    refuse_no_number(number)
    return pairs_of(number)


def signed(number):
    if not is_number(number) or number == 0:
        raise BadNumber("no whole number from 1 to 10000")
    return sum([signed_forms(pair) for pair in pairs_of(number)])


# A nought has no sign, and two like ones no second order; both at once would be 0.
def signed_forms(pair):
    return 4 if pair[0] == 0 or pair[0] == pair[1] else 8


# The names are those of point 6.
def joined(one, other):
    if not is_pair(one) or not is_pair(other):
        raise BadParts("no pair of whole numbers from 0 to 10000")
    a_c = one[0] * other[0]
    b_d = one[1] * other[1]
    a_d = one[0] * other[1]
    b_c = one[1] * other[0]
    return (rising(abs(a_c - b_d), a_d + b_c), rising(a_c + b_d, abs(a_d - b_c)))


def is_pair(value):
    return isinstance(value, tuple) and len(value) == 2 and is_number(value[0]) and is_number(value[1])


def rising(one, other):
    return (min(one, other), max(one, other))
