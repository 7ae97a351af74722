"""As few as can be: stretches that must have some winds and may not have others."""

from rosenames.errors import NoRoom
from rosenames.places import own_name
from rosenames.roses import must_be_alike


def fewest(must, bar):
    """(STRETCHES, BARS): the fewest stretches with all winds of MUST and none of BAR, and what parts them."""
    rose = must.rose
    runs, bars = fewest_runs(must, bar)
    stretches = [(own_name(rose, first), long) for first, long in runs]
    return tuple(stretches), tuple([own_name(rose, place) for place in bars])


def fewest_runs(must, bar):
    """The same by places: a list of (FIRST, LONG) and one of the barred places."""
    must_be_alike(must.rose, bar.rose)
    if any([place in bar.places for place in must.places]):
        raise NoRoom("a wind must and may not be there")
    if len(must) == 0:
        return [], []
    if len(bar) == 0:
        return [shortest_run(must)], []
    parted_runs = runs_ahead(must, bar)
    runs = [(first, long) for first, long, barred in parted_runs]
    if len(runs) == 1:
        return runs, []
    return runs, [barred for first, long, barred in parted_runs]


def shortest_run(spread):
    """The shortest run of winds that has all of a spread which has some."""
    places = spread.places
    # A run from each wind on to the one ahead of it, all the way round.
    runs = [((places[at - 1] - first) % len(spread.rose) + 1, first) for at, first in enumerate(places)]
    long, first = min(runs)
    return first, long


def runs_ahead(must, bar):
    """A list of (FIRST, LONG, BARRED), by places: for each barred wind the winds of MUST right ahead of it."""
    many = len(must.rose)
    ways = {barred: [] for barred in bar.places}
    for place in must.places:
        way = way_to_next(bar, place)
        ways[(place + way) % many].append(way)
    runs = []
    for barred in bar.places:
        if len(ways[barred]) > 0:
            farthest = max(ways[barred])
            runs.append(((barred - farthest) % many, farthest - min(ways[barred]) + 1, barred))
    return sorted(runs)


def way_to_next(spread, place):
    """How many winds on from a place the next wind of a spread lies."""
    return min([(other - place) % len(spread.rose) for other in spread.places])
