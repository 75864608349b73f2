"""Roots by a prime, or the chain of steps that bars them."""

from squarefield.answers import Chain, Root
from squarefield.errors import BadPrime
from squarefield.numbers import Turning, is_rest_prime, refuse_no_number


def root(number, prime):
    refuse_no_number(number)
    if not is_rest_prime(prime):
        raise BadPrime("no odd prime below 1000")
    for tried in range(prime // 2 + 1):
        if tried * tried % prime == number % prime:
            return Root(tried)
    return chain_of(number, prime)


# Asked only of a number without a root. Such a one has no common divisor with the
# prime, and no step brings one in: so the upper number comes to 1, never to 0.
def chain_of(number, prime):
    turning = Turning(number, prime)
    steps = []
    while turning.upper != 1:
        step = step_for(turning)
        turning.take(step)
        steps.append(step)
    return Chain(steps)


# A rest comes ahead of a turn, so that two turns never take one another back.
def step_for(turning):
    if turning.upper >= turning.lower:
        return "rest"
    if turning.upper % 2 == 0:
        return "half"
    return "turn"
