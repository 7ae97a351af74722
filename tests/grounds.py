"""Where walks come to, reckoned otherwise than the package does.

Each wind is a power of a root of 1 whose powers lie evenly round: a walk comes
to a sum of such powers. Of these a few are enough to write every sum in just
one way: those below the degree of the root's own polynomial. What a sum comes
to is its rest by this polynomial, in whole numbers, without any rings.
"""

import functools


def rest_by(lengths, divisor):
    """The rest of a polynomial, its lowest part first, by one whose highest part is 1."""
    left = list(lengths)
    while len(left) >= len(divisor):
        highest = left.pop()
        if highest:
            for at, part in enumerate(divisor[:-1]):
                left[len(left) - len(divisor) + 1 + at] -= highest * part
    return left


def quotient_by(top, divisor):
    left, parts = list(top), []
    while len(left) >= len(divisor):
        highest = left.pop()
        parts.append(highest)
        for at, part in enumerate(divisor[:-1]):
            left[len(left) - len(divisor) + 1 + at] -= highest * part
    assert not any(left)
    return parts[::-1]


@functools.cache
def polynomial(many):
    """The polynomial of a root of 1 whose powers come to 1 at MANY and not ahead."""
    found = [-1] + [0] * (many - 1) + [1]
    for divisor in range(1, many):
        if many % divisor == 0:
            found = quotient_by(found, polynomial(divisor))
    return tuple(found)


def place_of(lengths):
    """The place to which lengths, one for each wind, come."""
    degree = len(polynomial(len(lengths))) - 1
    rest = rest_by(lengths, polynomial(len(lengths)))
    return tuple(rest + [0] * (degree - len(rest)))


def ring(many, first, size):
    """Lengths of 1 along a ring."""
    return [1 if place % (many // size) == first else 0 for place in range(many)]


def rings_there_are(many):
    return [(first, size) for size in (2, 3, 5, 7) if many % size == 0 for first in range(many // size)]
