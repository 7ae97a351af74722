"""Whole numbers: which things are such, what divides two of them, and their figures."""

from rosenames.errors import NoStep

FIGURES = "0123456789"

# Of a number that is read out of a row.
MOST_FIGURES = 9

# Python writes no int of more than some thousand figures at once, and turns
# that are added again and again grow beyond that: so they go by pieces.
PIECE = 10 ** 18


def is_whole(thing):
    """Whether a thing is a whole number: a truth is none."""
    return isinstance(thing, int) and not isinstance(thing, bool)


def must_be_step(thing):
    """Refuse what is no whole number, so that nothing can be moved by it."""
    if not is_whole(thing):
        raise NoStep(thing)


def common(one, other):
    """The greatest number that divides two whole numbers from 0 on."""
    while other != 0:
        one, other = other, one % other
    return one


def figures_of(number):
    """The figures of a whole number from 0 on, however many."""
    pieces = []
    left = number
    while left >= PIECE:
        left, low = divmod(left, PIECE)
        pieces.append(f"{low:018d}")
    pieces.append(str(left))
    return "".join(pieces[::-1])


def are_figures(text):
    """Whether a text is figures, one or more, noughts ahead too."""
    return text != "" and all([sign in FIGURES for sign in text])


def is_written(text):
    """Whether a text is the figures of a whole number from 1 on, without noughts ahead."""
    return are_figures(text) and text[0] != "0"


def number_of(figures):
    """The whole number that figures tell, however many."""
    number = 0
    for figure in figures:
        number = 10 * number + int(figure)
    return number
