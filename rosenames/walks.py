"""Walks: steps along winds, and where they come to."""

from rosenames.errors import NoName, NoWalk, NoWord
from rosenames.places import own_name, place_told
from rosenames.rings import goes_home, least_lengths, taken_off
from rosenames.roses import must_be_alike
from rosenames.whole import figures_of, is_whole

MOST_STEPS = 256
NO_STEPS = "-"
BETWEEN = ", "


class Walk:
    """The `steps` (NAME, MANY), a tuple, that are gone along winds of a `rose`."""

    def __init__(self, rose, steps=None):
        given = () if steps is None else steps
        if not isinstance(given, tuple) or len(given) > MOST_STEPS:
            raise NoWalk(None)
        for number, step in enumerate(given):
            if not is_step(rose, step):
                raise NoWalk(number)
        self.rose = rose
        self.steps = given

    def __eq__(self, other):
        return (
            isinstance(other, Walk)
            and self.rose == other.rose
            and goes_home(taken_off(self.totals(), other.totals()))
        )

    def __len__(self):
        return len(self.steps)

    def __str__(self):
        return str(steps_text(self.steps))

    def __repr__(self):
        return f"Walk({steps_text(self.steps)})"

    def totals(self):
        """A tuple, for each wind by places, of how far is gone by it."""
        gone = [0] * len(self.rose)
        for name, many in self.steps:
            gone[place_told(self.rose, name)] += many
        return tuple(gone)

    def length(self):
        """How far is gone, all together."""
        return sum([many for name, many in self.steps])

    def then(self, name, many=1):
        """The walk with one step more."""
        return Walk(self.rose, self.steps + ((name, many),))

    def joined(self, other):
        """The walk with the steps of another one behind its own."""
        must_be_alike(self.rose, other.rose)
        return Walk(self.rose, self.steps + other.steps)

    def home(self):
        """Whether it comes where it began."""
        return goes_home(self.totals())

    def least(self):
        """The walk of the least length that comes to the same place."""
        lengths = least_lengths(self.totals())
        steps = [(own_name(self.rose, place), many) for place, many in enumerate(lengths) if many > 0]
        return Walk(self.rose, tuple(steps))


def is_step(rose, thing):
    """Whether a thing is a step along a wind of a rose."""
    if not isinstance(thing, tuple) or len(thing) != 2:
        return False
    name, many = thing
    return is_whole(many) and many >= 0 and is_name_of(rose, name)


def is_name_of(rose, thing):
    """Whether a thing is a name of a rose."""
    try:
        place_told(rose, thing)
    except (NoName, NoWord):
        return False
    return True


def steps_text(steps):
    """The text of steps: each as it was told."""
    if len(steps) == 0:
        return NO_STEPS
    return BETWEEN.join([f"{name} {figures_of(many)}" for name, many in steps])
