import random
import unittest

from refusals import refused
from rosenames.deeds import changed, do
from rosenames.errors import NoDeed, NoStep, NoWind
from rosenames.roses import Rose
from rosenames.turns import Turn
from rosenames.winds import Wind, wind_of, winds
from samples import GREAT, apart, part_of, roses, wind_parts
from things import NUMBERS, TEXTS, THINGS, deep

FOUR = ("n", "e", "s", "w")
DEEDS = ("on", "back", "across", "corner", "own")
OTHER_NAMES = ("", "On", "on ", " on", "ons", "o", "forth", "Own", "corners", "across\n", "n", "turned", "deed", "*", "ok")
NO_NAMES = OTHER_NAMES + THINGS + NUMBERS + (Turn(0), Rose(FOUR), deep(10), ("on",), ["on"], b"on")
NO_STEPS = THINGS + TEXTS + (Turn(1, 2), Rose(FOUR), deep(10))
BYS = (0, 1, 2, 5, -1, -7, 1000, GREAT, -GREAT, 10 ** 99)


def some_winds(rose):
    found = winds(rose)
    return found if len(found) < 40 else found[:12] + found[-12:] + found[12::9]


class DoTest(unittest.TestCase):
    def check(self, wind, made, place):
        self.assertIsInstance(made, Wind)
        self.assertEqual(made.rose, wind.rose)
        self.assertEqual(part_of(made.turn), wind_parts(wind.rose)[place % len(wind.rose)])

    def test_on_and_back(self):
        for rose in roses():
            for wind in some_winds(rose)[::3]:
                place = wind.place()
                self.check(wind, do("on", wind), place + 1)
                self.check(wind, do("back", wind), place - 1)
                for by in BYS:
                    self.check(wind, do("on", wind, by), place + by)
                    self.check(wind, do("on", wind, by=by), place + by)
                    self.check(wind, do("back", wind, by), place - by)
                    self.check(wind, do(by=by, wind=wind, name="back"), place - by)

    def test_across(self):
        for rose in roses():
            for wind in some_winds(rose):
                if len(rose) % 2 == 0:
                    self.check(wind, do("across", wind), wind.place() + len(rose) // 2)
                    self.check(wind, do("across", wind, 7), wind.place() + len(rose) // 2)
                else:
                    refusal = refused(self, NoWind, lambda: do("across", wind))
                    self.assertEqual(refusal.thing, wind.turn.opposite())
                    self.assertIsInstance(refusal.thing, Turn)

    def test_corner(self):
        half_way = over = 0
        for rose in roses():
            gap = 2 ** rose.halvings
            parts = wind_parts(rose)
            for wind in winds(rose):
                part = part_of(wind.turn)
                # Half-way the corner back, from which one goes on to the wind.
                corners = range(0, len(rose), gap)
                place = min(corners, key=lambda at: (apart(parts[at], part), (part - parts[at]) % 1))
                made = do("corner", wind)
                self.check(wind, made, place)
                self.assertEqual(len(made), 0)
                half_way += wind.place() % gap * 2 == gap
                over += place == 0 and wind.place() > gap
        self.assertGreater(half_way, 100)
        self.assertGreater(over, 100)

    def test_own(self):
        for rose in roses(halvings=(0, 2)):
            for wind in winds(rose):
                self.check(wind, do("own", wind), wind.place())
                self.check(wind, do("own", wind, by=3), wind.place())

    def test_examples(self):
        rose = Rose(FOUR, 2)
        for name, deed, made in (("n", "on", "n><"), ("n", "back", "n<>"), ("e<", "corner", "n"), ("n<>", "corner", "n"),
                                 ("w>", "corner", "w"), ("e<>", "corner", "e"), ("n><", "across", "s><"), ("e<", "own", "n>")):
            self.assertEqual(str(do(deed, wind_of(rose, name))), made)

    def test_by_is_looked_at_for_two_alone(self):
        wind = wind_of(Rose(FOUR, 2), "n>")
        for by in NO_STEPS:
            for name in ("across", "corner", "own"):
                self.assertEqual(do(name, wind, by), do(name, wind))
                self.assertEqual(do(name, wind, by=by), do(name, wind))
            for name in ("on", "back"):
                self.assertIs(refused(self, NoStep, lambda: do(name, wind, by)).thing, by)
                self.assertIs(refused(self, NoStep, lambda: do(name, wind, by=by)).thing, by)
        self.assertEqual(str(wind), "n>")

    def test_other_names(self):
        for wind in (wind_of(Rose(FOUR, 2), "n>"), wind_of(Rose(("a", "b", "c"), 0), "b")):
            for name in NO_NAMES:
                for by in (1, -GREAT, None, True, "1"):
                    self.assertIs(refused(self, NoDeed, lambda: do(name, wind, by)).word, name)
                self.assertIs(refused(self, NoDeed, lambda: do(name=name, wind=wind)).word, name)


class ChangedTest(unittest.TestCase):
    def test_by_names(self):
        chance = random.Random(23)
        for rose in roses():
            some = chance.choices(winds(rose), k=6)
            for name in DEEDS:
                if name == "across" and len(rose) % 2 == 1:
                    continue
                held = list(some)
                self.assertEqual(changed(some, name), [do(name, wind) for wind in held])
                for by in (0, 3, -5, GREAT):
                    told = changed(some, name, by)
                    self.assertIs(type(told), list)
                    self.assertIsNot(told, some)
                    self.assertEqual([str(wind) for wind in told], [str(do(name, wind, by)) for wind in held])
                    self.assertEqual(changed(some, name, by=by), told)
                    self.assertEqual(changed(by=by, deed=name, some=some), told)
                self.assertEqual(some, held)

    def test_by_deeds_handed_in(self):
        some = winds(Rose(FOUR, 1))

        def doubled(wind):
            return wind.turn.times(2)

        self.assertEqual(changed(some, doubled), [wind.turn.times(2) for wind in some])
        self.assertEqual(changed(some, lambda wind: str(wind)), [str(wind) for wind in some])
        for by in NO_STEPS:
            self.assertEqual(changed(some, lambda wind: wind.place(), by), list(range(8)))
            self.assertEqual(changed(some, deed=lambda wind: None, by=by), [None] * 8)
        self.assertEqual(changed([], doubled), [])
        self.assertEqual(some, winds(Rose(FOUR, 1)))

    def test_a_new_list_each_time(self):
        some = winds(Rose(FOUR, 0))
        for deed in ("own", lambda wind: wind):
            told = changed(some, deed)
            self.assertEqual(told, some)
            told.clear()
            self.assertEqual(len(some), 4)
            self.assertEqual(changed(some, deed), some)
        nothing = []
        self.assertIsNot(changed(nothing, "on"), nothing)
        self.assertIsNot(changed(nothing, lambda wind: wind), nothing)

    def test_of_an_empty_list(self):
        for name in DEEDS:
            self.assertEqual(changed([], name), [])
            self.assertEqual(changed([], name, -3), [])
        for name in OTHER_NAMES:
            self.assertIs(refused(self, NoDeed, lambda: changed([], name)).word, name)
            self.assertIs(refused(self, NoDeed, lambda: changed([], name, None)).word, name)
        for by in NO_STEPS:
            for name in ("on", "back"):
                self.assertIs(refused(self, NoStep, lambda: changed([], name, by)).thing, by)
                self.assertIs(refused(self, NoStep, lambda: changed([], name, by=by)).thing, by)
            for name in ("across", "corner", "own"):
                self.assertEqual(changed([], name, by), [])

    def test_refusals(self):
        some = winds(Rose(("a", "b", "c"), 0))
        for name in OTHER_NAMES:
            self.assertIs(refused(self, NoDeed, lambda: changed(some, name, True)).word, name)
        for by in NO_STEPS:
            self.assertIs(refused(self, NoStep, lambda: changed(some, "on", by)).thing, by)
            self.assertEqual(changed(some, "corner", by), some)
        self.assertEqual(refused(self, NoWind, lambda: changed(some, "across")).thing, Turn(1, 2))
        self.assertEqual(refused(self, NoWind, lambda: changed(some[1:], "across")).thing, Turn(5, 6))
        mixed = [wind_of(Rose(FOUR), "n"), some[2]]
        self.assertEqual(refused(self, NoWind, lambda: changed(mixed, "across")).thing, Turn(1, 6))
        self.assertEqual(some, winds(Rose(("a", "b", "c"), 0)))
        self.assertEqual(len(mixed), 2)


if __name__ == "__main__":
    unittest.main()
