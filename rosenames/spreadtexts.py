"""Texts of spreads, read."""

from rosenames.errors import NoName, NoText, NoWord
from rosenames.places import place_told
from rosenames.spreads import BETWEEN, NO_WINDS, UP_TO, Spread, spread_at


def read_spread(rose, text):
    """The spread that a text tells."""
    if not isinstance(text, str):
        raise NoText(0)
    if text == NO_WINDS:
        return Spread(rose)
    places = []
    for number, part in enumerate(text.split(BETWEEN)):
        try:
            places.extend(places_of(rose, part))
        except (NoName, NoWord):
            raise NoText(number) from None
    return spread_at(rose, places)


def places_of(rose, part):
    """The places of the winds of a part, NAME or NAME..NAME, going on from the first one."""
    first_name, dots, last_name = part.partition(UP_TO)
    first = place_told(rose, first_name)
    last = first if dots == "" else place_told(rose, last_name)
    long = (last - first) % len(rose) + 1
    return [(first + more) % len(rose) for more in range(long)]
