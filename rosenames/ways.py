"""Ways round: from a wind to others."""

from rosenames.roses import must_be_alike
from rosenames.turns import Turn
from rosenames.whole import must_be_step
from rosenames.winds import Wind, wind_at


def turned(wind, by=1, back=False):
    """The wind so many winds on, or back."""
    must_be_step(by)
    return wind_at(wind.rose, wind.place() + (-by if back else by))


def across(wind):
    """The opposite wind."""
    return Wind(wind.rose, wind.turn.opposite())


def winds_to(one, other):
    """How many winds on it is from the one to the other."""
    must_be_alike(one.rose, other.rose)
    return (other.place() - one.place()) % len(one.rose)


def halfway(one, other, long=False):
    """The turn half-way on the shorter way from the one to the other, or on the longer one."""
    on = other.turn.minus(one.turn)
    middle = one.turn.plus(Turn(on.top, 2 * on.bottom))
    goes_back = 2 * on.top > on.bottom
    # The middles of the way on and of the way back lie opposite each other.
    if goes_back != bool(long):
        return middle.opposite()
    return middle
