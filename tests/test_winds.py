import unittest
from fractions import Fraction

from refusals import alike, never_alike, refused
from rosenames.errors import NoName, NoWind, NoWord
from rosenames.roses import Rose
from rosenames.turns import Turn
from rosenames.winds import Wind, wind_of, winds
from samples import GREAT, all_names, names_by_part, own_names, part_of, roses, turn_of, wind_parts
from things import NUMBERS, TEXTS, THINGS, deep

FOUR = ("n", "e", "s", "w")


class WindTest(unittest.TestCase):
    def test_all_winds(self):
        for rose in roses():
            names = names_by_part(rose)
            parts = wind_parts(rose)
            self.assertEqual(sorted(names), sorted(parts))
            for place, part in enumerate(parts):
                wind = Wind(rose, turn_of(part))
                self.assertEqual(wind.rose, rose)
                self.assertEqual(wind.turn, turn_of(part))
                self.assertEqual(wind.place(), place)
                self.assertIs(type(wind.place()), int)
                self.assertEqual(wind.names(), names[part])
                self.assertIs(type(wind.names()), tuple)
                own = names[part][0]
                self.assertEqual(str(wind), own)
                marks = own.count("<") + own.count(">")
                self.assertEqual(len(wind), marks)
                self.assertIs(bool(wind), marks > 0)
                self.assertEqual(repr(wind), f"Wind({own} at {turn_of(part)})")

    def test_how_many_names(self):
        for rose in roses():
            for wind in winds(rose):
                self.assertEqual(len(wind.names()), 1 if wind.place() % 2 ** rose.halvings == 0 else 2)
                self.assertEqual({len(name) - len(name.rstrip("<>")) for name in wind.names()}, {len(wind)})

    def test_examples(self):
        rose = Rose(FOUR)
        wanted = [("n",), ("n><", "e<<"), ("n>", "e<"), ("e<>", "n>>"), ("e",)]
        self.assertEqual([Wind(rose, Turn(place, 16)).names() for place in range(5)], wanted)
        self.assertEqual(Wind(rose, Turn(7, 8)).names(), ("w>", "n<"))
        self.assertEqual(repr(Wind(rose, Turn(15, 16))), "Wind(n<> at 15/16)")
        self.assertEqual(repr(Wind(rose, Turn(0))), "Wind(n at 0)")

    def test_each_name_tells_its_wind(self):
        for rose in roses():
            told = {}
            for name in all_names(rose):
                wind = wind_of(rose, name)
                self.assertIsInstance(wind, Wind)
                self.assertEqual(wind.rose, rose)
                self.assertEqual(wind.turn, rose.told(name))
                self.assertEqual(wind, Wind(rose, rose.told(name)))
                self.assertIn(name, wind.names())
                told.setdefault(wind.place(), set()).add(name)
            for wind in winds(rose):
                self.assertEqual(told[wind.place()], set(wind.names()))

    def test_by_keyword(self):
        rose = Rose(FOUR)
        self.assertEqual(Wind(turn=Turn(1, 8), rose=rose).place(), 2)
        self.assertEqual(wind_of(name="e<", rose=rose).place(), 2)


class RefusedWindTest(unittest.TestCase):
    def refused(self, thing, rose, turn):
        self.assertIs(refused(self, NoWind, lambda: Wind(rose, turn)).thing, thing)
        self.assertIs(refused(self, NoWind, lambda: Wind(turn=turn, rose=rose)).thing, thing)

    def test_no_rose(self):
        rose = Rose(FOUR)
        for thing in THINGS + TEXTS + NUMBERS + (Turn(0), FOUR, str(rose), Wind(rose, Turn(0)), Rose, deep(10)):
            self.refused(thing, thing, Turn(0))
            for turn in (0, None, "0", rose, Turn(1, 7)):
                self.refused(thing, thing, turn)

    def test_no_turn(self):
        rose = Rose(FOUR)
        for thing in THINGS + TEXTS + NUMBERS + (rose, FOUR, Wind(rose, Turn(0)), Turn, deep(10)):
            self.refused(thing, rose, thing)

    def test_no_wind_there(self):
        for rose in roses():
            gap = Fraction(1, len(rose))
            for part in wind_parts(rose):
                for by in (gap / 2, gap / 3, -gap / 5, Fraction(1, GREAT * 10 ** 40)):
                    turn = turn_of((part + by) % 1)
                    self.refused(turn, rose, turn)

    def test_behind_a_refusal_all_is_told_as_ahead(self):
        rose = Rose(FOUR, 1, Turn(1, 3))
        turn = Turn(1, 5)
        self.refused(turn, rose, turn)
        self.assertEqual(turn, Turn(1, 5))
        self.assertEqual([str(wind) for wind in winds(rose)], own_names(rose))

    def test_wind_of(self):
        rose = Rose(FOUR, 2)
        for thing in THINGS + NUMBERS + ("", ">", "N", Turn(0), ["n"]):
            self.assertEqual(refused(self, NoName, lambda: wind_of(rose, thing)).at, 0)
        self.assertEqual(refused(self, NoName, lambda: wind_of(rose, "n>>>")).at, 3)
        self.assertEqual(refused(self, NoName, lambda: wind_of(rose, "x>>>")).at, 3)
        self.assertEqual(refused(self, NoName, lambda: wind_of(rose, "n>e")).at, 2)
        self.assertEqual(refused(self, NoName, lambda: wind_of(rose, "zephyrs")).at, 6)
        self.assertEqual(refused(self, NoWord, lambda: wind_of(rose, "x>>")).word, "x")


class AlikeTest(unittest.TestCase):
    def test_winds_of_different_roses(self):
        some = [Rose(FOUR, 2), Rose(FOUR, 1), Rose(("a", "b", "c"), 3), Rose(("no", "na", "n"), 2, Turn(1, 8)),
                Rose(("a", "b", "c", "d", "e"), 0, Turn(1, 2))]
        met = 0
        for one in some:
            for other in some:
                for mine in winds(one):
                    for theirs in winds(other):
                        are = part_of(mine.turn) == part_of(theirs.turn)
                        alike(self, mine, theirs, are)
                        met += one != other and are
        self.assertGreater(met, 20)

    def test_alike_whatever_they_show(self):
        alike(self, Wind(Rose(FOUR), Turn(1, 8)), Wind(Rose(("a", "b", "c"), 0, Turn(1, 8)), Turn(1, 8)), True)
        alike(self, Wind(Rose(FOUR), Turn(1, 8)), Wind(Rose(FOUR), Turn(1, 16)), False)

    def test_a_wind_and_another_thing(self):
        rose = Rose(FOUR)
        for wind in (Wind(rose, Turn(0)), Wind(rose, Turn(1, 8))):
            own = (wind.turn, rose, str(wind), repr(wind), wind.place(), wind.names(), (rose, wind.turn), [wind],
                   (wind,), Wind, len(wind))
            never_alike(self, wind, THINGS + TEXTS + NUMBERS + own)

    def test_nothing_asked_changes_a_wind(self):
        rose = Rose(FOUR, 3, Turn(1, 7))
        wind = wind_of(rose, "n><")
        ahead = (wind.place(), wind.names(), str(wind), repr(wind), len(wind))
        held = dict(vars(wind))
        for _ in range(3):
            self.assertEqual((wind.place(), wind.names(), str(wind), repr(wind), len(wind)), ahead)
            winds(rose, lambda other: other == wind)
        self.assertEqual(vars(wind), held)
        self.assertEqual(rose, Rose(FOUR, 3, Turn(1, 7)))


class WindsTest(unittest.TestCase):
    def places(self, some):
        self.assertIs(type(some), list)
        for wind in some:
            self.assertIsInstance(wind, Wind)
        return [wind.place() for wind in some]

    def test_all(self):
        for rose in roses():
            some = winds(rose)
            self.assertEqual(self.places(some), list(range(len(rose))))
            self.assertEqual([part_of(wind.turn) for wind in some], wind_parts(rose))
            self.assertEqual([str(wind) for wind in some], own_names(rose))
            self.assertTrue(all(wind.rose == rose for wind in some))

    def test_none_is_left_out(self):
        rose = Rose(FOUR)
        everything = list(range(16))
        self.assertEqual(self.places(winds(rose, None)), everything)
        self.assertEqual(self.places(winds(rose, None, None)), everything)
        self.assertEqual(self.places(winds(rose=rose, where=None, key=None)), everything)

    def test_where(self):
        rose = Rose(FOUR)
        corners = [0, 4, 8, 12]
        others = [place for place in range(16) if place not in corners]
        # What they tell counts as Python counts it: a corner has no marks.
        for where, wanted in (
            (lambda wind: True, list(range(16))),
            (lambda wind: False, []),
            (lambda wind: None, []),
            (lambda wind: "x" if wind.place() < 3 else "", [0, 1, 2]),
            (lambda wind: wind.place() - 5, [place for place in range(16) if place != 5]),
            (lambda wind: wind, others),
            (lambda wind: [wind], list(range(16))),
            (lambda wind: (), []),
            (lambda wind: wind.rose, list(range(16))),
            (lambda wind: wind.turn, list(range(16))),
            (len, others),
        ):
            self.assertEqual(self.places(winds(rose, where)), wanted)
            self.assertEqual(self.places(winds(rose, where=where)), wanted)
            self.assertEqual(self.places(winds(where=where, rose=rose, key=None)), wanted)

    def test_where_is_asked_of_each_wind_once_by_places(self):
        for rose in roses(halvings=(0, 2)):
            asked = []
            winds(rose, lambda wind: asked.append(wind.place()))
            self.assertEqual(asked, list(range(len(rose))))

    def test_key(self):
        for rose in roses(halvings=(0, 1, 3)):
            for key in (len, str, lambda wind: 0, lambda wind: -wind.place(), lambda wind: (len(wind), str(wind)),
                        lambda wind: wind.place() % 3 == 0, lambda wind: wind.names(), lambda wind: wind.place() % 5):
                told = [key(wind) for wind in winds(rose)]
                wanted = sorted(range(len(rose)), key=lambda place: (told[place], place))
                self.assertEqual(self.places(winds(rose, None, key)), wanted)
                self.assertEqual(self.places(winds(rose, key=key)), wanted)

    def test_both(self):
        rose = Rose(FOUR, 3)
        even = [place for place in range(32) if place % 2 == 0]
        wanted = sorted(even, key=lambda place: (-(place % 6), place))
        where = lambda wind: wind.place() % 2 == 0
        key = lambda wind: -(wind.place() % 6)
        self.assertEqual(self.places(winds(rose, where, key)), wanted)
        self.assertEqual(self.places(winds(rose, where, key=key)), wanted)
        self.assertEqual(self.places(winds(key=key, where=where, rose=rose)), wanted)

    def test_a_new_list_each_time(self):
        rose = Rose(FOUR)
        for ask in (lambda: winds(rose), lambda: winds(rose, lambda wind: True), lambda: winds(rose, None, str)):
            first = ask()
            ahead = list(first)
            self.assertIsNot(ask(), first)
            first.clear()
            again = ask()
            self.assertEqual(again, ahead)
            again.append(None)
            self.assertEqual(ask(), ahead)


if __name__ == "__main__":
    unittest.main()
