"""Winds: where one lies, and the names that tell it."""

from rosenames.errors import NoWind
from rosenames.names import parted
from rosenames.places import names_at, own_name, place_at, place_told, turn_at
from rosenames.roses import Rose
from rosenames.turns import Turn


class Wind:
    """The wind of a `rose` that lies at a `turn`."""

    def __init__(self, rose, turn):
        if not isinstance(rose, Rose):
            raise NoWind(rose)
        if not isinstance(turn, Turn) or place_at(rose, turn) is None:
            raise NoWind(turn)
        self.rose = rose
        self.turn = turn

    def __eq__(self, other):
        return isinstance(other, Wind) and self.turn == other.turn

    def __len__(self):
        return len(parted(str(self))[1])

    def __str__(self):
        return str(own_name(self.rose, self.place()))

    def __repr__(self):
        return f"Wind({self} at {self.turn})"

    def place(self):
        """How many winds on from the first corner it lies."""
        return place_at(self.rose, self.turn)

    def names(self):
        """Its own name and the other one, if there is."""
        return names_at(self.rose, self.place())


def wind_at(rose, place):
    """The wind at a place; by any whole number, round and round."""
    return Wind(rose, turn_at(rose, place))


def wind_of(rose, name):
    """The wind that a name tells."""
    return wind_at(rose, place_told(rose, name))


def winds(rose, where=None, key=None):
    """A list of all winds by places, or of some, or put by a key."""
    found = [wind_at(rose, place) for place in range(len(rose))]
    if where is not None:
        found = [wind for wind in found if where(wind)]
    if key is not None:
        found = sorted(found, key=lambda wind: key(wind))
    return found
