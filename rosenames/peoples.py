"""Two peoples: where their roses agree, how one leads to the other, and what neither says."""

from rosenames.near import nearest
from rosenames.turns import Turn
from rosenames.winds import winds

SAME = "same"
LIES_ON = "on"
LIES_BACK = "back"


def both_say(one, other):
    """A list of all turns at which both roses have winds, by their parts."""
    whole = parts_in_turn(one, other)
    shared = sorted(set(parts_of(one, whole)) & set(parts_of(other, whole)))
    return [Turn(part, whole) for part in shared]


def leads(one, other):
    """A list, for each wind of the one by places, of what is nearest to it in the other rose."""
    return [lead_between(wind, nearest(other, wind.turn)) for wind in winds(one)]


def lead_between(wind, near):
    """(OWN, OTHER, WORD, TURN): both own names, whether the first lies on or back, and how far."""
    far = wind.turn.apart(near.turn)
    if far == Turn(0):
        word = SAME
    else:
        word = LIES_ON if wind.turn.minus(near.turn) == far else LIES_BACK
    return str(wind), str(near), word, far


def unsaid(one, other):
    """(FROM, WIDE): the widest way on from a turn at which one of both has a wind to the next such."""
    whole = parts_in_turn(one, other)
    said = sorted(set(parts_of(one, whole)) | set(parts_of(other, whole)))
    # Each way on ends where the next one begins, the last one behind the full turn.
    ends = said[1:] + [said[0] + whole]
    ways = [(end - begin, -begin) for begin, end in zip(said, ends)]
    wide, back = max(ways)
    return Turn(-back, whole), Turn(wide, whole)


def parts_in_turn(one, other):
    """In how many parts a turn must be parted, so that each wind of both roses lies whole parts on from 0."""
    return one.begin.bottom * len(one) * other.begin.bottom * len(other)


def parts_of(rose, whole):
    """A list of how many such parts on from 0 each wind of a rose lies."""
    return [wind.turn.top * (whole // wind.turn.bottom) for wind in winds(rose)]
