"""The checker: whether a paper shows what a claim says.

It takes nothing on trust, and uses nothing of what writes the house's papers.
"""

LEAST_MANY = 3
MOST_MANY = 256
ODD_SIZES = (3, 5, 7)
SIZES = (2, 3, 5, 7)


def holds(claim, paper):
    """Whether a paper shows what a claim says, of things of any kind."""
    if not isinstance(claim, tuple) or len(claim) == 0 or not isinstance(claim[0], str):
        return False
    word = claim[0]
    if word == "home" and len(claim) == 2:
        return shows_home(claim[1], paper)
    if word == "away" and len(claim) == 2:
        return shows_away(claim[1], paper)
    if word == "least" and len(claim) == 3:
        return shows_least(claim[1], claim[2], paper)
    if word == "fewest" and len(claim) == 5:
        return shows_fewest(claim[1], claim[2], claim[3], claim[4], paper)
    return False


def shows_home(lengths, paper):
    """Whether rings come to lengths."""
    if not are_lengths(lengths) or not are_rings(paper, len(lengths)):
        return False
    return with_rings([0] * len(lengths), paper) == list(lengths)


def shows_away(lengths, paper):
    """Whether lengths come to something by a root by which whatever goes home comes to 0."""
    if not are_lengths(lengths) or not isinstance(paper, tuple) or len(paper) != 2:
        return False
    modulus, root = paper
    if not is_whole(modulus) or modulus < 2 or not is_whole(root) or root < 0 or root >= modulus:
        return False
    return root_fits(len(lengths), modulus, root) and summed(lengths, modulus, root) != 0


def shows_least(lengths, least, paper):
    """Whether rings bring lengths to the least ones, and pulls hold these to be the least."""
    if not are_lengths(lengths) or not are_lengths(least) or len(least) != len(lengths):
        return False
    if min(lengths) < 0 or min(least) < 0 or not isinstance(paper, tuple) or len(paper) != 2:
        return False
    rings, pulls = paper
    if not are_rings(rings, len(lengths)) or not are_pulls(pulls, len(lengths)):
        return False
    pulled = sum([length * pull for length, pull in zip(least, pulls)])
    return with_rings(lengths, rings) == list(least) and pulled == sum(least)


def shows_fewest(many, must, bar, stretches, paper):
    """Whether stretches have what they must and nothing barred, and none of them can be spared."""
    if not is_many(many) or not are_rising(must, many) or not are_rising(bar, many):
        return False
    if any([place in bar for place in must]) or not are_stretches(stretches, many):
        return False
    had = places_had(stretches, many)
    if not all([place in had for place in must]) or any([place in had for place in bar]):
        return False
    if not isinstance(paper, tuple):
        return False
    if len(stretches) < 2:
        return len(paper) == 0 and (len(stretches) == 0 or len(must) > 0)
    return len(paper) == len(stretches) and are_parted(paper, many, must, bar)


def is_whole(thing):
    """Whether a thing is a whole number: a truth is none."""
    return isinstance(thing, int) and not isinstance(thing, bool)


def is_many(thing):
    """Whether a rose can have so many winds: of 2s and at most one 3, 5 or 7 multiplied."""
    if not is_whole(thing) or thing < LEAST_MANY or thing > MOST_MANY:
        return False
    left = thing
    while left % 2 == 0:
        left //= 2
    return left == 1 or left in ODD_SIZES


def is_place(thing, many):
    """Whether a thing is one of so many places."""
    return is_whole(thing) and 0 <= thing < many


def are_lengths(thing):
    """Whether a thing is a tuple of lengths, as many as a rose can have winds."""
    return isinstance(thing, tuple) and is_many(len(thing)) and all([is_whole(length) for length in thing])


def are_rings(thing, many):
    """Whether a thing is a tuple of rings of so many places."""
    return isinstance(thing, tuple) and all([is_ring(ring, many) for ring in thing])


def is_ring(thing, many):
    """Whether a thing is (FIRST, OF, TIMES) of a ring of so many places."""
    if not isinstance(thing, tuple) or len(thing) != 3:
        return False
    first, size, times = thing
    if not is_whole(size) or size not in SIZES or many % size != 0:
        return False
    return is_place(first, many // size) and is_whole(times) and times != 0


def with_rings(lengths, rings):
    """A list of lengths with all rings put to them."""
    many = len(lengths)
    put = list(lengths)
    for first, size, times in rings:
        for place in range(first, many, many // size):
            put[place] += times
    return put


def root_fits(many, modulus, root):
    """Whether by a root all rings of so many places come to 0."""
    if many % 2 == 1:
        return summed([1] * many, modulus, root) == 0
    for size in ODD_SIZES:
        if many % size == 0:
            signs = [-1 if at % 2 == 1 else 1 for at in range(size)]
            return summed(signs, modulus, power(root, many // (2 * size), modulus)) == 0
    return power(root, many // 2, modulus) == modulus - 1


def summed(lengths, modulus, root):
    """The rest of the sum of all lengths, each times the root to the power of its place."""
    total = 0
    worth = 1
    for length in lengths:
        total = (total + length * worth) % modulus
        worth = worth * root % modulus
    return total


def power(root, times, modulus):
    """The rest of a root to a power from 0 on, by a modulus from 2 on."""
    worth = 1
    for time in range(times):
        worth = worth * root % modulus
    return worth


def are_pulls(thing, many):
    """Whether a thing is a tuple of pulls, 1 at most, that come to 0 along each ring of so many places."""
    if not isinstance(thing, tuple) or len(thing) != many:
        return False
    if not all([is_whole(pull) and pull <= 1 for pull in thing]):
        return False
    return all([sum(thing[first::many // size]) == 0
                for size in SIZES if many % size == 0 for first in range(many // size)])


def are_rising(thing, many):
    """Whether a thing is a rising tuple of unlike places."""
    if not isinstance(thing, tuple) or not all([is_place(place, many) for place in thing]):
        return False
    return all([place < following for place, following in zip(thing, thing[1:])])


def are_stretches(thing, many):
    """Whether a thing is a tuple of stretches of so many places."""
    return isinstance(thing, tuple) and all([is_stretch(stretch, many) for stretch in thing])


def is_stretch(thing, many):
    """Whether a thing is (FIRST, LONG) of a stretch."""
    if not isinstance(thing, tuple) or len(thing) != 2:
        return False
    return is_place(thing[0], many) and is_whole(thing[1]) and 1 <= thing[1] <= many


def places_had(stretches, many):
    """A dict of the places that stretches have."""
    return {(first + more) % many: True for first, long in stretches for more in range(long)}


def are_parted(paper, many, must, bar):
    """Whether (ONE, OTHER) follow one another once round, each ONE a must, each OTHER barred."""
    if not all([is_pair(pair, many, must, bar) for pair in paper]):
        return False
    begin = paper[0][0]
    ways = [(place - begin) % many for pair in paper for place in pair]
    return all([way < following for way, following in zip(ways, ways[1:])])


def is_pair(thing, many, must, bar):
    """Whether a thing is (ONE, OTHER), ONE a must, OTHER barred."""
    if not isinstance(thing, tuple) or len(thing) != 2:
        return False
    one, other = thing
    return is_place(one, many) and one in must and is_place(other, many) and other in bar
