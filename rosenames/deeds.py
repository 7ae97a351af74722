"""Deeds of a wind, by their names."""

from rosenames.errors import NoDeed
from rosenames.near import nearest_of
from rosenames.ways import across, turned
from rosenames.whole import must_be_step

ON = "on"
BACK = "back"
ACROSS = "across"
CORNER = "corner"
OWN = "own"


def do(name, wind, by=1):
    """What the deed of a name makes of a wind."""
    must_be_deed(name, by)
    if name == ON:
        return turned(wind, by)
    if name == BACK:
        return turned(wind, by, back=True)
    if name == ACROSS:
        return across(wind)
    if name == CORNER:
        return nearest_of(wind.rose, wind.turn, len(wind.rose.words))
    return wind


def must_be_deed(name, by):
    """Refuse what names no deed, and BY where the deed can't go by it."""
    if not isinstance(name, str) or name not in (ON, BACK, ACROSS, CORNER, OWN):
        raise NoDeed(name)
    if name in (ON, BACK):
        must_be_step(by)


def changed(some, deed, by=1):
    """A list of what a deed, by its name or handed in, makes of each wind of a list."""
    if not isinstance(deed, str):
        return [deed(wind) for wind in some]
    # Looked at ahead of the winds, since there may be none.
    must_be_deed(deed, by)
    return [do(deed, wind, by) for wind in some]
