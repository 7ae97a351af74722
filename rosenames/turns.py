"""Turns: parts of a full turn, less all whole turns."""

from rosenames.errors import NoText, NoTurn
from rosenames.whole import common, figures_of, is_whole, is_written, number_of


class Turn:
    """A part of a full turn: `top` by `bottom`, in lowest terms, from 0 to below 1."""

    def __init__(self, top, bottom=1):
        if not is_whole(top):
            raise NoTurn(top)
        if not is_whole(bottom) or bottom == 0:
            raise NoTurn(bottom)
        signed = top if bottom > 0 else -top
        size = abs(bottom)
        part = signed % size
        shared = common(part, size)
        self.top = part // shared
        self.bottom = size // shared

    def __eq__(self, other):
        return isinstance(other, Turn) and self.top == other.top and self.bottom == other.bottom

    def __str__(self):
        if self.top == 0:
            return "0"
        return f"{figures_of(self.top)}/{figures_of(self.bottom)}"

    def __repr__(self):
        return f"Turn({figures_of(self.top)}, {figures_of(self.bottom)})"

    def plus(self, other):
        """The turn that both make, one behind the other."""
        must_be_turn(other)
        return Turn(self.top * other.bottom + other.top * self.bottom, self.bottom * other.bottom)

    def minus(self, other):
        """The turn that is left when the other one is taken away."""
        must_be_turn(other)
        return Turn(self.top * other.bottom - other.top * self.bottom, self.bottom * other.bottom)

    def times(self, many):
        """The turn so many times; below 0 it is taken away."""
        if not is_whole(many):
            raise NoTurn(many)
        return Turn(self.top * many, self.bottom)

    def opposite(self):
        """The turn half a turn on."""
        return Turn(2 * self.top + self.bottom, 2 * self.bottom)

    def below(self, other):
        """Whether this part of a turn is less than the other one."""
        must_be_turn(other)
        return self.top * other.bottom < other.top * self.bottom

    def apart(self, other):
        """How far both lie apart, the shorter way."""
        on = self.minus(other)
        if 2 * on.top > on.bottom:
            return other.minus(self)
        return on


def must_be_turn(thing):
    """Refuse what is no Turn."""
    if not isinstance(thing, Turn):
        raise NoTurn(thing)


def read_turn(text):
    """The turn of which `str` writes this text."""
    if not isinstance(text, str):
        raise NoText(0)
    if text == "0":
        return Turn(0)
    top, stroke, bottom = text.partition("/")
    if stroke == "" or not is_written(top) or not is_written(bottom):
        raise NoText(0)
    turn = Turn(number_of(top), number_of(bottom))
    # A text in other than lowest terms, or of a whole turn and more, makes a
    # turn all the same, but not one that is written so.
    if str(turn) != text:
        raise NoText(0)
    return turn
