"""Places: the winds of a rose by their numbers, on from the first corner.

What is reckoned here asks of a rose its values and its `len` alone, so that
the rose itself, its winds and its spreads can all use it.
"""

from rosenames.errors import NoWord
from rosenames.names import marks_by, parted_within, step_of
from rosenames.turns import Turn


def place_told(rose, name):
    """The place of the wind that a name of a rose tells."""
    word, marks = parted_within(name, rose.halvings)
    if word not in rose.words:
        raise NoWord(word)
    top, bottom = step_of(marks)
    gap = 1 << rose.halvings
    place = rose.words.index(word) * gap + top * (gap // bottom)
    return place % len(rose)


def turn_at(rose, place):
    """The turn of the wind at a place; by any whole number, round and round."""
    return rose.begin.plus(Turn(place, len(rose)))


def place_at(rose, turn):
    """The place of the wind at a turn, None where the rose has none."""
    on = turn.minus(rose.begin)
    place, over = divmod(on.top * len(rose), on.bottom)
    return place if over == 0 else None


def names_at(rose, place):
    """The names of the wind at a place, its own one first."""
    gap = 1 << rose.halvings
    corner, over = divmod(place, gap)
    if over == 0:
        return (rose.words[corner],)
    top, many = lowest(over, rose.halvings)
    next_corner = (corner + 1) % len(rose.words)
    going_on = rose.words[corner] + marks_by(top, many)
    going_back = rose.words[next_corner] + marks_by(top - (1 << many), many)
    if 2 * over > gap:
        return going_back, going_on
    return going_on, going_back


def lowest(top, many):
    """(TOP, MANY) of as much, TOP parts of 2^MANY, with an odd TOP."""
    while top % 2 == 0:
        top //= 2
        many -= 1
    return top, many


def own_name(rose, place):
    """The own name of the wind at a place."""
    return names_at(rose, place)[0]
