"""Near a turn: the nearest wind, and the one of the shortest name."""

from rosenames.errors import NoWind
from rosenames.turns import Turn, must_be_turn
from rosenames.winds import Wind


def nearest(rose, turn):
    """The wind that lies least far from a turn."""
    must_be_turn(turn)
    return nearest_of(rose, turn, len(rose))


def nearest_of(rose, turn, many):
    """The nearest of so many winds that lie evenly round the rose, the first corner among them."""
    on = turn.minus(rose.begin)
    place, over = divmod(on.top * many, on.bottom)
    if 2 * over > on.bottom:
        place += 1
    return Wind(rose, rose.begin.plus(Turn(place, many)))


def shortest(rose, turn, within=None):
    """Of the winds no farther from a turn than WITHIN the nearest one of the fewest marks."""
    must_be_turn(turn)
    far = Turn(1, 2 * len(rose)) if within is None else within
    must_be_turn(far)
    for marks in range(rose.halvings + 1):
        # The winds of at most so many marks lie evenly. Where none of fewer
        # marks is near enough, none of those can be this nearest one.
        wind = nearest_of(rose, turn, len(rose.words) << marks)
        if not far.below(turn.apart(wind.turn)):
            return wind
    raise NoWind(turn)
