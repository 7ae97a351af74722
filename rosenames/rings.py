"""Rings: lengths, one for each place round a rose, and what of them goes home.

A ring is (FIRST, OF, TIMES): TIMES at FIRST and at all OF places that lie
evenly round the rose with it.
"""

PAIR = 2
ODD_SIZES = (3, 5, 7)


def odd_size(many):
    """Which of 3, 5 and 7 divides so many places; 1 where none does."""
    for size in ODD_SIZES:
        if many % size == 0:
            return size
    return 1


def taken_off(lengths, others):
    """Lengths less others, place by place."""
    return tuple([length - other for length, other in zip(lengths, others)])


def differences(lengths):
    """How much more there is at each place than at the opposite one, if there is one."""
    many = len(lengths)
    if many % PAIR != 0:
        return list(lengths)
    return [length - lengths[place - many // PAIR] for place, length in enumerate(lengths)]


def goes_home(lengths):
    """Whether rings can come to these lengths."""
    many = len(lengths)
    more = differences(lengths)
    size = odd_size(many)
    if size == 1:
        return all([difference == 0 for difference in more])
    return all([more[place] == more[place - many // size] for place in range(many)])


def left_over(lengths):
    """The differences, less what of them goes home along the rings of 3, 5 or 7."""
    more = differences(lengths)
    size = odd_size(len(lengths))
    if size == 1:
        return more
    apart = len(lengths) // size
    home = [going_home(more[first::apart], len(lengths)) for first in range(apart)]
    return [difference - home[place % apart] for place, difference in enumerate(more)]


def going_home(ring, many):
    """What is to be taken off all differences along a ring, so that the least is left to go."""
    rising = sorted(ring)
    # Without opposite places nothing can be left that is below 0; with them
    # what is below 0 is gone at the opposite place, and its size counts.
    return rising[len(ring) // 2] if many % PAIR == 0 else rising[0]


def least_lengths(lengths):
    """The lengths of the least sum, none below 0, that differ from these by rings."""
    return tuple([max(0, left) for left in left_over(lengths)])


def rings_of(lengths):
    """The tuple of rings that come to lengths which go home."""
    many = len(lengths)
    odd_rings = odd_rings_of(lengths)
    left = taken_off(lengths, put_together(odd_rings, many))
    # What is left is alike at opposite places; where there are none nothing is left.
    pairs = [(first, PAIR, left[first]) for first in range(many // PAIR) if left[first] != 0]
    return tuple(odd_rings + pairs)


def odd_rings_of(lengths):
    """A list of the rings of 3, 5 or 7, at most one of two opposite ones, that make the differences."""
    size = odd_size(len(lengths))
    if size == 1:
        return []
    more = differences(lengths)
    firsts = (len(lengths) // size + 1) // 2
    return [(first, size, more[first]) for first in range(firsts) if more[first] != 0]


def put_together(rings, many):
    """The lengths at so many places that rings come to."""
    lengths = [0] * many
    for first, size, times in rings:
        for place in range(first, many, many // size):
            lengths[place] += times
    return lengths
