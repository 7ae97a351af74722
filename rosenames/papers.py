"""The house's papers: for each question the claim that is true, and what shows it."""

from rosenames.few import fewest_runs
from rosenames.rings import ODD_SIZES, PAIR, goes_home, least_lengths, left_over, odd_size, rings_of, taken_off
from rosenames.roses import must_be_alike


def paper_home(walk):
    """Whether a walk comes home, and what shows it."""
    return home_or_away(walk.totals())


def paper_alike(one, other):
    """Whether two walks come to one place, and what shows it."""
    must_be_alike(one.rose, other.rose)
    return home_or_away(taken_off(one.totals(), other.totals()))


def paper_least(walk):
    """The least lengths that come where a walk comes, and what shows it."""
    lengths = walk.totals()
    least = least_lengths(lengths)
    rings = rings_of(taken_off(least, lengths))
    return ("least", lengths, least), (rings, pulls_of(lengths))


def paper_fewest(must, bar):
    """The fewest stretches with all winds of MUST and none of BAR, and what shows it."""
    runs, bars = fewest_runs(must, bar)
    claim = ("fewest", len(must.rose), must.places, bar.places, tuple(runs))
    # Only several runs have barred winds that part them.
    return claim, tuple([(run[0], barred) for run, barred in zip(runs, bars)])


def home_or_away(lengths):
    """The claim that is true of lengths, and its paper."""
    if goes_home(lengths):
        return ("home", lengths), rings_of(lengths)
    return ("away", lengths), root_for(lengths)


def root_for(lengths):
    """(MODULUS, ROOT) by which lengths that don't go home don't come to 0."""
    many = len(lengths)
    modulus = many + 1
    # What doesn't go home comes to 0 by the root of some primes, but never of
    # all of them: so the search ends.
    while not is_prime(modulus) or summed(lengths, modulus, root_of(many, modulus)) == 0:
        modulus += many
    return modulus, root_of(many, modulus)


def is_prime(number):
    """Whether a number from 2 on is a prime."""
    divisor = 2
    while divisor * divisor <= number:
        if number % divisor == 0:
            return False
        divisor += 1
    return True


def root_of(many, modulus):
    """A number whose powers by a prime, one more than a multiple of MANY, come to 1 at MANY and not ahead."""
    base = 2
    root = power(base, modulus // many, modulus)
    while comes_early(root, many, modulus):
        base += 1
        root = power(base, modulus // many, modulus)
    return root


def comes_early(root, many, modulus):
    """Whether the powers of a root come to 1 ahead of MANY, where they come to 1."""
    return any([power(root, many // size, modulus) == 1
                for size in (PAIR,) + ODD_SIZES if many % size == 0])


def power(base, times, modulus):
    """The rest of a base to a power from 0 on."""
    worth = 1
    square = base % modulus
    left = times
    while left > 0:
        if left % 2 == 1:
            worth = worth * square % modulus
        square = square * square % modulus
        left //= 2
    return worth


def summed(lengths, modulus, root):
    """The rest of the sum of all lengths, each times the root to the power of its place."""
    total = 0
    for length in lengths[::-1]:
        total = (total * root + length) % modulus
    return total


def pulls_of(lengths):
    """A pull for each place, 1 where the least lengths go, that come to 0 along each ring."""
    left = left_over(lengths)
    many = len(left)
    if many % PAIR != 0:
        return all_but_one(left)
    pulls = [sign_of(length) for length in left]
    size = odd_size(many)
    if size > 1:
        # Half of the rings, since the opposite ones have the contrary pulls.
        for first in range(many // size // 2):
            even_out(pulls, left, first, many // size)
    return tuple(pulls)


def all_but_one(left):
    """Pulls of 1, but at one place, where nothing is left to go, one that holds against all others."""
    held = left.index(0)
    return tuple([1 - len(left) if place == held else 1 for place in range(len(left))])


def sign_of(number):
    """1, 0 or -1: above 0, 0 or below."""
    if number == 0:
        return 0
    return 1 if number > 0 else -1


def even_out(pulls, left, first, apart):
    """Put pulls where nothing is left to go, until they come to 0 along a ring and the opposite one."""
    many = len(left)
    for place in range(first, many, apart):
        if left[place] == 0:
            # The middle was taken off, so less than half of the ring pulls
            # either way, and there are places enough.
            pull = -sign_of(sum(pulls[first::apart]))
            pulls[place] = pull
            pulls[place - many // PAIR] = -pull
