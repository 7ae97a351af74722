"""Spreads: some winds of a rose, gathered, and the stretches that they make."""

from rosenames.places import own_name, place_at, place_told
from rosenames.roses import must_be_alike
from rosenames.whole import must_be_step
from rosenames.winds import wind_at, winds

NO_WINDS = "-"
BETWEEN = ", "
UP_TO = ".."


class Spread:
    """Some winds of a `rose`; `places` is the rising tuple of theirs."""

    def __init__(self, rose, names=None):
        given = () if names is None else names
        self.rose = rose
        self.places = tuple(sorted({place_told(rose, name) for name in given}))

    def __eq__(self, other):
        return isinstance(other, Spread) and self.rose == other.rose and self.places == other.places

    def __len__(self):
        return len(self.places)

    def __str__(self):
        return str(text_of(self))

    def __repr__(self):
        return f"Spread({text_of(self)})"

    def winds_in(self):
        """A list of its winds, by places."""
        return [wind_at(self.rose, place) for place in self.places]

    def has(self, wind):
        """Whether a wind, of whatever rose, is alike with one of these."""
        return place_at(self.rose, wind.turn) in self.places

    def joined(self, other):
        """What one of both has."""
        must_be_alike(self.rose, other.rose)
        return spread_at(self.rose, self.places + other.places)

    def met(self, other):
        """What both have."""
        must_be_alike(self.rose, other.rose)
        return spread_at(self.rose, [place for place in self.places if place in other.places])

    def without(self, other):
        """What this one has and the other one has not."""
        must_be_alike(self.rose, other.rose)
        return spread_at(self.rose, [place for place in self.places if place not in other.places])

    def rest(self):
        """All other winds of the rose."""
        return spread_at(self.rose, [place for place in range(len(self.rose)) if place not in self.places])

    def moved(self, by=1):
        """Each wind so many winds on."""
        must_be_step(by)
        return spread_at(self.rose, [(place + by) % len(self.rose) for place in self.places])

    def stretches(self):
        """The fewest stretches that have together just these winds."""
        return tuple([(own_name(self.rose, first), long) for first, long in runs_of(self)])


def gathered(rose, where):
    """The spread of all winds of which a small deed tells what counts as true."""
    return spread_at(rose, [wind.place() for wind in winds(rose, where)])


def spread_at(rose, places):
    """The spread of the winds at some places, in whatever order and however often."""
    return Spread(rose, tuple([own_name(rose, place) for place in sorted(set(places))]))


def runs_of(spread):
    """A list of (FIRST, LONG), by places, of the runs of winds that go on without a gap."""
    many = len(spread.rose)
    if len(spread) == many:
        return [(0, many)]
    firsts = [place for place in spread.places if (place - 1) % many not in spread.places]
    return [(first, run_length(spread, first)) for first in firsts]


def run_length(spread, first):
    """How many winds of a spread that isn't all of its rose go on from a place without a gap."""
    long = 1
    while (first + long) % len(spread.rose) in spread.places:
        long += 1
    return long


def text_of(spread):
    """The text of a spread: its stretches, each by its first and its last wind."""
    if len(spread) == 0:
        return NO_WINDS
    return BETWEEN.join([run_text(spread.rose, first, long) for first, long in runs_of(spread)])


def run_text(rose, first, long):
    """The text of a run of winds."""
    if long == 1:
        return own_name(rose, first)
    last = (first + long - 1) % len(rose)
    return own_name(rose, first) + UP_TO + own_name(rose, last)
