"""Torn names: which names they can be, and which wind they tell all the same."""

from rosenames.errors import NoName
from rosenames.names import BACK, LETTERS, ON
from rosenames.places import place_told
from rosenames.winds import wind_at

LOST_ONE = "?"
LOST_ANY = "*"
MOST_SIGNS = 12
MOST_LOST_ANY = 2


def torn(rose, text):
    """The rising tuple of all names of a rose that a torn name can be."""
    must_be_torn(text)
    found = []
    for word in rose.words:
        for many in range(rose.halvings + 1):
            found.extend(fillings(text, list(word) + [BACK + ON] * many))
    return tuple(sorted(set(found)))


def healed(rose, text):
    """The wind that all names tell that a torn name can be, None where there is no such one."""
    places = [place_told(rose, name) for name in torn(rose, text)]
    if len(set(places)) != 1:
        return None
    return wind_at(rose, places[0])


def must_be_torn(text):
    """Refuse what is no torn name."""
    if not isinstance(text, str) or text == "":
        raise NoName(0)
    signs = LETTERS + ON + BACK + LOST_ONE + LOST_ANY
    lost = 0
    for at, sign in enumerate(text):
        if sign == LOST_ANY:
            lost += 1
        if at == MOST_SIGNS or sign not in signs or lost > MOST_LOST_ANY:
            raise NoName(at)


def fillings(text, slots):
    """All texts that a torn text can be, a sign for each slot, one of the slot's signs."""
    if text == "":
        return [] if len(slots) > 0 else [""]
    lost_any = text[0] == LOST_ANY
    found = fillings(text[1:], slots) if lost_any else []
    if len(slots) == 0:
        return found
    fitting = [sign for sign in slots[0] if text[0] in (sign, LOST_ONE, LOST_ANY)]
    if len(fitting) > 0:
        # Asked for once, whichever sign stands ahead: else all rows of marks
        # would be tried.
        behind = fillings(text if lost_any else text[1:], slots[1:])
        found.extend([sign + more for sign in fitting for more in behind])
    return found
