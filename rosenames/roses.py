"""Roses: corners that have words, how often the gaps between are halved, and where it begins."""

from rosenames.errors import NoPair, NoRose, NoText
from rosenames.names import is_word
from rosenames.places import place_told, turn_at
from rosenames.turns import Turn, read_turn
from rosenames.whole import is_whole

LEAST_CORNERS = 3
MOST_CORNERS = 8
MOST_HALVINGS = 5
FIRST_WORD = "rose"


class Rose:
    """Corners' `words`, `halvings` of the gaps between them, and `begin`, the first one's Turn."""

    def __init__(self, words, halvings=2, begin=None):
        if not are_corners(words):
            raise NoRose("words")
        if not is_whole(halvings) or halvings < 0 or halvings > MOST_HALVINGS:
            raise NoRose("halvings")
        if begin is not None and not isinstance(begin, Turn):
            raise NoRose("begin")
        self.words = words
        self.halvings = halvings
        self.begin = Turn(0) if begin is None else begin

    def __eq__(self, other):
        return (
            isinstance(other, Rose)
            and self.words == other.words
            and self.halvings == other.halvings
            and self.begin == other.begin
        )

    def __len__(self):
        return len(range(len(self.words) << self.halvings))

    def __str__(self):
        return "\n".join([f"{FIRST_WORD} {self.halvings} {self.begin}", *self.words])

    def __repr__(self):
        return f"Rose({self.words!r}, halvings={self.halvings!r}, begin={self.begin!r})"

    def told(self, name):
        """The turn that a name of this rose tells."""
        return turn_at(self, place_told(self, name))


def are_corners(thing):
    """Whether a thing is a tuple of words that the corners of a rose can have."""
    if not isinstance(thing, tuple) or len(thing) < LEAST_CORNERS or len(thing) > MOST_CORNERS:
        return False
    if not all([is_word(word) for word in thing]):
        return False
    return len(set(thing)) == len(thing)


def must_be_alike(one, other):
    """Refuse two roses that aren't alike."""
    if one != other:
        raise NoPair("their roses aren't alike")


def read_rose(text):
    """The rose of which `str` writes this text."""
    if not isinstance(text, str):
        raise NoText(0)
    rows = text.split("\n")
    halvings, begin = read_first_row(rows[0])
    for number, row in enumerate(rows[1:], start=1):
        if number > MOST_CORNERS or not is_word(row) or row in rows[1:number]:
            raise NoText(number)
    if len(rows) <= LEAST_CORNERS:
        raise NoText(len(rows))
    return Rose(tuple(rows[1:]), halvings, begin)


def read_first_row(row):
    """(HALVINGS, BEGIN) of the first row of a rose's text."""
    parts = row.split(" ")
    if len(parts) != 3 or parts[0] != FIRST_WORD:
        raise NoText(0)
    if parts[1] not in [str(many) for many in range(MOST_HALVINGS + 1)]:
        raise NoText(0)
    # A begin that isn't so written is refused with row 0, too: this row's number.
    return int(parts[1]), read_turn(parts[2])
