"""The promise, sentence by sentence, each through several modules of the program."""

import itertools
import random
import unittest

from grounds import place_of, ring, rings_there_are
from refusals import alike
from rosenames.checker import holds
from rosenames.deeds import changed, do
from rosenames.desk import Desk
from rosenames.errors import NoWind
from rosenames.few import fewest
from rosenames.logs import read_log, show_log
from rosenames.names import marks_by, parted, step_of
from rosenames.near import nearest, shortest
from rosenames.papers import paper_alike, paper_fewest, paper_home, paper_least
from rosenames.peoples import both_say, leads, unsaid
from rosenames.roses import Rose, read_rose
from rosenames.spreads import Spread, gathered
from rosenames.spreadtexts import read_spread
from rosenames.tearing import healed, torn
from rosenames.turns import Turn, read_turn
from rosenames.walks import Walk
from rosenames.ways import turned, winds_to
from rosenames.winds import Wind, wind_of, winds
from samples import all_names, part_of, part_told, roses, turn_of, wind_parts

LETTERS = ("a", "b", "c", "d", "e", "f", "g", "h")


def drawn_walk(rose, chance, steps=6, most=5):
    names = all_names(rose)
    return Walk(rose, tuple((chance.choice(names), chance.randint(0, most)) for _ in range(steps)))


def drawn_spread(rose, chance, share, other=None):
    """A spread of winds drawn, none of them in another one."""
    return gathered(rose, lambda wind: chance.random() < share and not (other and other.has(wind)))


class NamesAndWindsTest(unittest.TestCase):
    def test_each_name_tells_one_turn(self):
        for rose in roses(halvings=(0, 1, 2, 5)):
            desk = Desk(rose)
            for name in all_names(rose)[::1 if rose.halvings < 3 else 7]:
                word, marks = parted(name)
                top, bottom = step_of(marks)
                self.assertEqual(marks_by(top, len(marks)), marks)
                corner = rose.words.index(word)
                turn = rose.begin.plus(Turn(corner * bottom + top, len(rose.words) * bottom))
                self.assertEqual(rose.told(name), turn)
                self.assertEqual(wind_of(rose, name).turn, turn)
                self.assertEqual(Walk(rose, ((name, 1),)).totals().index(1), Wind(rose, turn).place())
                self.assertEqual(desk.say("face " + name), "ok")
                self.assertEqual(read_turn(desk.say("turn")), turn)

    def test_each_wind_is_told_by_just_its_names(self):
        for rose in roses(halvings=(0, 1, 2, 4)):
            told = {}
            for name in all_names(rose):
                told.setdefault(part_of(rose.told(name)), set()).add(name)
            self.assertEqual(set(told), set(wind_parts(rose)))
            for wind in winds(rose):
                names = wind.names()
                self.assertEqual(set(names), told[part_of(wind.turn)])
                self.assertEqual(len(names), 1 if len(wind) == 0 else 2)
                for name in names:
                    self.assertEqual(healed(rose, name), wind)
                    self.assertTrue(Spread(rose, (name,)).has(wind))

    def test_what_is_shown_reads_back(self):
        chance = random.Random(31)
        for rose in roses(halvings=(0, 1, 3)):
            self.assertEqual(read_rose(str(rose)), rose)
            desk = Desk(read_rose(str(rose)))
            for wind in chance.choices(winds(rose), k=5):
                self.assertEqual(wind_of(rose, str(wind)), wind)
                self.assertEqual(Wind(rose, read_turn(str(wind.turn))), wind)
                desk.say(f"face {wind}")
                self.assertEqual(desk.say("wind"), str(wind))
                self.assertEqual(desk.say("names").split(" "), list(wind.names()))
            spread = drawn_spread(rose, chance, 0.4)
            self.assertEqual(read_spread(rose, str(spread)), spread)
            self.assertEqual(desk.say(f"keep a {spread}"), "ok")
            self.assertEqual(desk.say("show a"), str(spread))
            walk = drawn_walk(rose, chance)
            self.assertEqual(read_log(rose, show_log(walk, 8, 4)).steps, walk.steps)
            for row in str(walk).split(", "):
                self.assertEqual(desk.say("go " + row), "ok")
            self.assertEqual(desk.say("walk"), str(walk))


class TurnsTest(unittest.TestCase):
    def test_turns_added_are_taken_away_again(self):
        chance = random.Random(32)
        for rose in roses(halvings=(0, 2, 5)):
            for wind in chance.choices(winds(rose), k=4):
                other = Turn(chance.randrange(10 ** 30), chance.randrange(1, 10 ** 30))
                self.assertEqual(wind.turn.plus(other).minus(other), wind.turn)
                self.assertEqual(wind.turn.minus(other).plus(other), wind.turn)
                self.assertEqual(wind.turn.times(5).minus(wind.turn.times(4)), wind.turn)
                self.assertEqual(wind.turn.opposite().opposite(), wind.turn)
                by = chance.randrange(-10 ** 20, 10 ** 20)
                self.assertEqual(do("back", do("on", wind, by), by), wind)
                self.assertEqual(turned(turned(wind, by), by, back=True), wind)
                there = turned(wind, by)
                self.assertEqual(wind.turn.plus(Turn(winds_to(wind, there), len(rose))), there.turn)
                near = nearest(rose, other)
                far = other.apart(near.turn)
                self.assertIn(other, (near.turn.plus(far), near.turn.minus(far)))
            some = winds(rose)
            self.assertEqual(changed(changed(some, "on", 3), "back", 3), some)


class ShortestTest(unittest.TestCase):
    def test_no_name_as_near_is_shorter(self):
        chance = random.Random(33)
        for rose in roses(halvings=(0, 1, 2, 4)):
            desk = Desk(rose)
            names = all_names(rose)
            for _ in range(6):
                turn = Turn(chance.randrange(5040), 5040)
                within = Turn(1, chance.randint(2, 4 * len(rose)))
                near = [name for name in names if not within.below(rose.told(name).apart(turn))]
                if not near:
                    self.assertRaises(NoWind, shortest, rose, turn, within)
                    continue
                wind = shortest(rose, turn, within)
                self.assertEqual(len(wind), min(len(parted(name)[1]) for name in near))
                self.assertIn(str(wind), near)
                as_short = [name for name in near if len(parted(name)[1]) == len(wind)]
                far = turn.apart(wind.turn)
                self.assertFalse([name for name in as_short if rose.told(name).apart(turn).below(far)])
                self.assertEqual(desk.say(f"short {turn} {within}"), str(wind))


class TwoRosesTest(unittest.TestCase):
    def test_what_both_say_is_all_that_they_can(self):
        some = roses(halvings=(0, 1, 2))
        for one, other in zip(some, some[5:] + some[:5]):
            told = both_say(one, other)
            ones = [one.told(name) for name in all_names(one)]
            both = [turn for turn in ones if turn in [other.told(name) for name in all_names(other)]]
            self.assertEqual({part_of(turn) for turn in told}, {part_of(turn) for turn in both})
            for turn in told:
                self.assertEqual(Wind(one, turn), Wind(other, turn))
            same = [lead for lead in leads(one, other) if lead[2] == "same"]
            self.assertEqual(len(same), len(told))
            for own, near, word, far in same:
                self.assertEqual(wind_of(one, own), wind_of(other, near))
            begin, wide = unsaid(one, other)
            for rose in (one, other):
                for wind in winds(rose):
                    self.assertFalse(0 < part_of(wind.turn.minus(begin)) < part_of(wide))


class TornTest(unittest.TestCase):
    def test_a_torn_name_can_be_just_what_is_told(self):
        rose = Rose(("a", "ab", "b", "ba"), 2)
        desk = Desk(rose)
        names = all_names(rose)
        for signs in range(1, 5):
            for text in map("".join, itertools.product("ab<>?*", repeat=signs)):
                if text.count("*") > 2:
                    continue
                told = torn(rose, text)
                self.assertEqual(told, tuple(sorted(name for name in names if self.can_be(text, name))))
                if signs < 3:
                    self.assertEqual(desk.say("torn " + text), " ".join(told) or "-")
                parts = {part_told(rose, name) for name in told}
                wanted = Wind(rose, turn_of(parts.pop())) if len(parts) == 1 else None
                self.assertEqual(healed(rose, text), wanted)

    def can_be(self, text, name):
        if text == "":
            return name == ""
        if text[0] == "*":
            return any(self.can_be(text[1:], name[at:]) for at in range(len(name) + 1))
        return name != "" and text[0] in (name[0], "?") and self.can_be(text[1:], name[1:])


class StretchesTest(unittest.TestCase):
    def tried(self, rose, places, barred):
        """How many stretches it takes to have these places and none of the barred ones, tried one by one."""
        many = len(rose)
        rows = [{(first + more) % many for more in range(long)} for first in range(many) for long in range(1, many + 1)]
        rows = [row & places for row in rows if not row & barred]
        for size in range(many + 1):
            if any(set().union(*some) == places for some in itertools.combinations(rows, size)):
                return size
        raise AssertionError("none at all")

    def test_stretches_are_as_few_as_can_be(self):
        for corners in (3, 4, 5):
            rose = Rose(LETTERS[:corners], 0, Turn(3, 7))
            for kinds in itertools.product(range(3), repeat=corners):
                must = gathered(rose, lambda wind: kinds[wind.place()] == 1)
                bar = gathered(rose, lambda wind: kinds[wind.place()] == 2)
                places = {place for place in range(corners) if kinds[place] == 1}
                barred = {place for place in range(corners) if kinds[place] == 2}
                others = set(range(corners)) - places
                self.assertEqual(len(must.stretches()), self.tried(rose, places, others))
                self.assertEqual(len(fewest(must, bar)[0]), self.tried(rose, places, barred))
                # Where all others are barred, there are just the stretches of the spread itself.
                self.assertEqual(fewest(must, must.rest())[0], must.stretches())

    def test_papers_show_it(self):
        chance = random.Random(34)
        for rose in roses(halvings=(0, 2, 4)):
            must = drawn_spread(rose, chance, 0.3)
            bar = drawn_spread(rose, chance, 0.3, must)
            claim, paper = paper_fewest(must, bar)
            self.assertIs(holds(claim, paper), True)
            stretches = fewest(must, bar)[0]
            text = ", ".join(f"{name}..{turned(wind_of(rose, name), long - 1)}" for name, long in stretches) or "-"
            have = read_spread(rose, text)
            self.assertEqual(must.without(have), Spread(rose))
            self.assertEqual(bar.met(have), Spread(rose))
            for other in range(len(stretches)):
                fewer = claim[4][:other] + claim[4][other + 1:]
                self.assertIs(holds(claim[:4] + (fewer,), paper), False)


class WalksTest(unittest.TestCase):
    def test_alike_just_where_they_come_to_one_place(self):
        chance = random.Random(35)
        for rose in roses(halvings=(0, 1, 2)):
            walks = [drawn_walk(rose, chance, steps, 2) for steps in (0, 1, 2, 8, 30)]
            walks += [read_log(rose, show_log(walk.least())) for walk in walks]
            for one, other in itertools.product(walks, walks):
                same = place_of(one.totals()) == place_of(other.totals())
                alike(self, one, other, same)
                claim, paper = paper_alike(one, other)
                self.assertEqual(claim[0], "home" if same else "away")
                self.assertIs(holds(claim, paper), True)

    def test_no_walk_that_comes_there_is_shorter(self):
        chance = random.Random(36)
        for corners, halvings, most in ((3, 0, 6), (4, 0, 5), (5, 0, 5), (6, 0, 4), (7, 0, 4), (8, 0, 3)):
            rose = Rose(LETTERS[:corners], halvings)
            shortest_there = {}
            for length in range(most + 1):
                for row in itertools.combinations_with_replacement(range(len(rose)), length):
                    shortest_there.setdefault(place_of([row.count(place) for place in range(len(rose))]), length)
            for _ in range(30):
                walk = drawn_walk(rose, chance, chance.randint(0, most), 1)
                least = walk.least()
                self.assertEqual(least.length(), shortest_there[place_of(walk.totals())])
                claim, paper = paper_least(walk)
                self.assertIs(holds(claim, paper), True)
                self.assertEqual((claim[1], claim[2]), (walk.totals(), least.totals()))
                desk = Desk(rose)
                for name, many in walk.steps:
                    desk.say(f"go {name} {many}")
                self.assertEqual(desk.say("least"), str(least))
                self.assertEqual(desk.say("home"), "away" if any(place_of(walk.totals())) else "home")


class PapersTest(unittest.TestCase):
    def changed_papers(self, thing, chance):
        """The same with one whole number of it otherwise, however deep."""
        spots = list(self.spots(thing))
        for spot in chance.sample(spots, min(6, len(spots))):
            yield self.put(thing, spot, chance.choice((-2, -1, 1, 2, 3)))

    def spots(self, thing, ahead=()):
        for at, part in enumerate(thing):
            if isinstance(part, tuple):
                yield from self.spots(part, ahead + (at,))
            elif isinstance(part, int):
                yield ahead + (at,)

    def put(self, thing, spot, by):
        part = thing[spot[0]]
        new = part + by if len(spot) == 1 else self.put(part, spot[1:], by)
        return thing[:spot[0]] + (new,) + thing[spot[0] + 1:]

    def is_so(self, claim):
        """Whether a claim is true, reckoned otherwise than by papers."""
        if claim[0] in ("home", "away"):
            return (claim[0] == "away") == any(place_of(claim[1]))
        if claim[0] == "least":
            rose = Rose(LETTERS[:len(claim[1])], 0)
            walk = Walk(rose, tuple((LETTERS[place], many) for place, many in enumerate(claim[1]) if many))
            return walk.least().totals() == claim[2]
        many, must, bar, stretches = claim[1:]
        have = {(first + more) % many for first, long in stretches for more in range(long)}
        rose = Rose(LETTERS[:many], 0)
        spreads = [Spread(rose, tuple(LETTERS[place] for place in places)) for places in (must, bar)]
        right = set(must) <= have and not set(bar) & have
        return right and len(stretches) == len(fewest(*spreads)[0])

    def test_to_these_there_are_papers_and_what_the_checker_takes_is_so(self):
        chance = random.Random(37)
        taken = otherwise = 0
        for corners in range(3, 9):
            rose = Rose(LETTERS[:corners], 0)
            for _ in range(40):
                one, other = drawn_walk(rose, chance, 5, 2), drawn_walk(rose, chance, 5, 2)
                must = drawn_spread(rose, chance, 0.4)
                bar = drawn_spread(rose, chance, 0.4, must)
                for told in (paper_home(one), paper_alike(one, other), paper_alike(one, one.least()), paper_least(one),
                             paper_fewest(must, bar)):
                    self.assertIs(holds(*told), True)
                    self.assertTrue(self.is_so(told[0]))
                    for claim, paper in self.changed_papers(told, chance):
                        otherwise += 1
                        if holds(claim, paper):
                            taken += 1
                            self.assertTrue(self.is_so(claim), (claim, paper))
        self.assertGreater(taken, 100)
        self.assertGreater(otherwise - taken, 100)

    def test_whatever_goes_home_is_never_away(self):
        for many in (3, 4, 5, 6, 7, 8):
            rose = Rose(LETTERS[:many], 0)
            for first, size in rings_there_are(many):
                walk = Walk(rose, tuple((LETTERS[place], 4) for place, one in enumerate(ring(many, first, size)) if one))
                self.assertIs(walk.home(), True)
                for modulus, root in itertools.product(range(2, 30), range(30)):
                    self.assertIs(holds(("away", walk.totals()), (modulus, root)), False)


if __name__ == "__main__":
    unittest.main()
