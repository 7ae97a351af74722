"""Roses to be asked, and what they must tell, reckoned otherwise than the package does."""

import functools
import itertools
from fractions import Fraction

from rosenames.roses import Rose, read_rose
from rosenames.turns import Turn

GREAT = 123456789012345678901234567890

# Words that differ at one letter alone, and words that begin others.
WORDS = (
    ("a", "b", "c"),
    ("n", "e", "s", "w"),
    ("no", "na", "n", "nor", "north"),
    ("ab", "aab", "a", "b", "bb", "abab"),
    ("zephyr", "zephys", "zephy", "yephyr", "zepyyr", "z", "r"),
    ("tram", "greco", "levant", "sciroc", "ostro", "garbin", "ponent", "maestr"),
)
BEGINS = (
    None,
    Turn(0),
    Turn(1, 3),
    Turn(5, 8),
    Turn(359, 360),
    Turn(GREAT, GREAT * 7 + 1),
    Turn(GREAT * 3 - 1, GREAT * 3),
)


def roses(halvings=range(6), begins=BEGINS):
    """A rose for each row of words and number of halvings, the begins in turns."""
    made = []
    for at, (words, many) in enumerate(itertools.product(WORDS, halvings)):
        made.append(Rose(words, many, begins[at % len(begins)]))
    return made


def part_of(turn):
    return Fraction(turn.top, turn.bottom)


def turn_of(part):
    return Turn(part.numerator, part.denominator)


def apart(one, other):
    """How far two parts of a turn lie apart."""
    return min((one - other) % 1, (other - one) % 1)


def rows_of_marks(many):
    """All rows of at most so many marks."""
    return ["".join(row) for marks in range(many + 1) for row in itertools.product("<>", repeat=marks)]


def all_names(rose):
    return [word + marks for word in rose.words for marks in rows_of_marks(rose.halvings)]


def step(marks):
    return sum([Fraction(1 if mark == ">" else -1, 2 ** (at + 1)) for at, mark in enumerate(marks)], Fraction(0))


def part_told(rose, name):
    """The part of a turn that a name must tell."""
    word = name.rstrip("<>")
    corner = rose.words.index(word)
    return (part_of(rose.begin) + (corner + step(name[len(word):])) / len(rose.words)) % 1


def step_in(name):
    return step(name[len(name.rstrip("<>")):])


def wind_parts(rose):
    """The parts of a turn at which winds must lie, by places."""
    return list(wind_parts_of(str(rose)))


@functools.cache
def wind_parts_of(text):
    rose = read_rose(text)
    many = len(rose.words) * 2 ** rose.halvings
    return [(part_of(rose.begin) + Fraction(place, many)) % 1 for place in range(many)]


def names_by_part(rose):
    """For each part of a turn at which a wind lies its names, the own one first."""
    return dict(names_by_part_of(str(rose)))


# Roses have no hash, so what is reckoned of one is kept by its text.
@functools.cache
def names_by_part_of(text):
    rose = read_rose(text)
    found = {}
    for name in all_names(rose):
        found.setdefault(part_told(rose, name), []).append(name)
    # Nearer is a step of less size; of two as large the one that goes on.
    return {part: tuple(sorted(names, key=lambda name: (abs(step_in(name)), step_in(name) < 0)))
            for part, names in found.items()}


def own_names(rose):
    """The own names of all winds, by places."""
    return list(own_names_of(str(rose)))


@functools.cache
def own_names_of(text):
    rose = read_rose(text)
    names = names_by_part(rose)
    return [names[part][0] for part in wind_parts(rose)]
