import unittest
from fractions import Fraction

from refusals import refused
from rosenames.errors import NoTurn, NoWind
from rosenames.near import nearest, shortest
from rosenames.roses import Rose
from rosenames.turns import Turn
from rosenames.winds import Wind, winds
from samples import GREAT, apart, names_by_part, part_of, roses, turn_of, wind_parts
from things import NUMBERS, TEXTS, THINGS, deep

FOUR = ("n", "e", "s", "w")
HALF = Fraction(1, 2)


def turns_near(rose):
    """Parts of a turn: on winds, half-way between two, a bit beside these, and elsewhere."""
    gap = Fraction(1, len(rose))
    bit = Fraction(1, GREAT)
    parts = wind_parts(rose)
    some = parts[:3] + parts[-2:] + parts[3::11]
    found = [Fraction(0), HALF, Fraction(1, 3), 1 - bit, bit]
    for part in some:
        for by in (0, gap / 2, bit, -bit, gap / 2 + bit, gap / 2 - bit, gap / 3, -gap / 2, 4 * gap / 7):
            found.append((part + by) % 1)
    return found


def rank(part, wanted):
    """How near a wind is; of two as near that from which one goes on is ahead."""
    return apart(part, wanted), (wanted - part) % 1 != apart(part, wanted)


class NearestTest(unittest.TestCase):
    def test_against_all_winds(self):
        for rose in roses():
            parts = wind_parts(rose)
            for wanted in turns_near(rose)[::1 if len(rose) < 30 else 5]:
                wind = nearest(rose, turn_of(wanted))
                self.assertIsInstance(wind, Wind)
                self.assertEqual(wind.rose, rose)
                self.assertEqual(part_of(wind.turn), min(parts, key=lambda part: rank(part, wanted)))

    def test_on_a_wind(self):
        for rose in roses():
            for wind in winds(rose):
                self.assertEqual(nearest(rose, wind.turn), wind)

    def test_half_way_between_two(self):
        for rose in roses():
            for wind in winds(rose):
                turn = wind.turn.plus(Turn(1, 2 * len(rose)))
                self.assertEqual(nearest(rose, turn), wind)
                self.assertEqual(nearest(rose, turn.plus(Turn(1, 10 ** 50))).place(), (wind.place() + 1) % len(rose))
                self.assertEqual(nearest(rose, turn.minus(Turn(1, 10 ** 50))), wind)

    def test_across_the_begin(self):
        rose = Rose(FOUR, 0, Turn(1, 8))
        self.assertEqual(str(nearest(rose, Turn(0))), "w")
        self.assertEqual(str(nearest(rose, Turn(1, 100))), "n")
        self.assertEqual(str(nearest(rose, Turn(99, 100))), "w")
        self.assertEqual(str(nearest(Rose(FOUR, 0), Turn(7, 8))), "w")
        self.assertEqual(str(nearest(turn=Turn(8, 9), rose=Rose(FOUR, 0))), "n")


class ShortestTest(unittest.TestCase):
    def wanted(self, names, wanted, within):
        """The part of the wind that must be told, of all one by one; None where there is none."""
        near = [part for part in names if apart(part, wanted) <= within]
        if not near:
            return None
        return min(near, key=lambda part: (names[part][0].count("<") + names[part][0].count(">"), rank(part, wanted)))

    def check(self, rose, names, part, within):
        far = Fraction(1, 2 * len(rose)) if within is None else within
        wanted = self.wanted(names, part, far)
        turn = turn_of(part)
        given = None if within is None else turn_of(within)
        if wanted is None:
            self.assertIs(refused(self, NoWind, lambda: shortest(rose, turn, given)).thing, turn)
            self.assertIs(refused(self, NoWind, lambda: shortest(rose, turn, within=given)).thing, turn)
            return
        wind = shortest(rose, turn, given)
        self.assertIsInstance(wind, Wind)
        self.assertEqual(wind.rose, rose)
        self.assertEqual(part_of(wind.turn), wanted)
        self.assertEqual(shortest(rose, turn, within=given), wind)
        self.assertLessEqual(apart(part_of(wind.turn), part), far)

    def test_against_all_winds(self):
        for rose in roses(halvings=(0, 1, 2, 4)):
            names = names_by_part(rose)
            gap = Fraction(1, len(rose))
            bit = Fraction(1, GREAT)
            for within in (None, Fraction(0), gap / 2, gap / 2 - bit, gap, gap * 3 / 2, Fraction(1, 20),
                           Fraction(1, 2 * len(rose.words)), HALF, HALF - bit, Fraction(3, 4), 1 - bit):
                for part in turns_near(rose)[::7]:
                    self.check(rose, names, part, within)

    def test_the_deepest_roses(self):
        for rose in roses(halvings=(5,)):
            names = names_by_part(rose)
            for within in (None, Fraction(0), Fraction(1, 300), Fraction(1, 64), Fraction(1, 30)):
                for part in turns_near(rose)[::13]:
                    self.check(rose, names, part, within)

    def test_left_out(self):
        for rose in roses():
            for part in turns_near(rose):
                turn = turn_of(part)
                wind = shortest(rose, turn)
                self.assertEqual(wind, shortest(rose, turn, None))
                self.assertEqual(wind, shortest(turn=turn, rose=rose, within=Turn(1, 2 * len(rose))))

    def test_examples(self):
        rose = Rose(FOUR, 2)
        self.assertEqual(str(shortest(rose, Turn(1, 16))), "n><")
        self.assertEqual(str(shortest(rose, Turn(1, 32))), "n")
        self.assertEqual(str(shortest(rose, Turn(3, 32))), "n>")
        self.assertEqual(str(shortest(rose, Turn(1, 16), Turn(1, 16))), "n")
        self.assertEqual(str(shortest(rose, Turn(3, 16), Turn(1, 16))), "e")
        self.assertEqual(str(shortest(rose, Turn(1, 8), Turn(1, 8))), "n")
        self.assertEqual(str(shortest(rose, Turn(7, 8), Turn(1, 2))), "w")
        self.assertEqual(str(shortest(rose, Turn(15, 16), Turn(3, 4))), "n")
        self.assertEqual(str(shortest(rose, Turn(1, 8), Turn(0))), "n>")

    def test_none_so_near(self):
        turn = Turn(1, 33)
        for within in (Turn(0), Turn(1, 10 ** 40), Turn(1, 34)):
            self.assertIs(refused(self, NoWind, lambda: shortest(Rose(FOUR, 2), turn, within)).thing, turn)
        self.assertEqual(str(shortest(Rose(FOUR, 2), turn, Turn(1, 33))), "n")


class RefusedTest(unittest.TestCase):
    def refused(self, thing, deed):
        self.assertIs(refused(self, NoTurn, deed).thing, thing)

    def test_no_turn(self):
        rose = Rose(FOUR, 2)
        for thing in THINGS + TEXTS + NUMBERS + (rose, Wind(rose, Turn(0)), Turn, deep(10)):
            self.refused(thing, lambda: nearest(rose, thing))
            self.refused(thing, lambda: nearest(rose, turn=thing))
            self.refused(thing, lambda: shortest(rose, thing))
            self.refused(thing, lambda: shortest(rose, thing, Turn(1, 2)))
            self.refused(thing, lambda: shortest(rose, turn=thing, within=None))

    def test_no_within(self):
        rose = Rose(FOUR, 2)
        for thing in THINGS + TEXTS + NUMBERS + (rose, Wind(rose, Turn(0)), Turn, deep(10)):
            if thing is not None:
                for turn in (Turn(0), Turn(1, 33)):
                    self.refused(thing, lambda: shortest(rose, turn, thing))
                    self.refused(thing, lambda: shortest(rose, turn, within=thing))

    def test_the_first_of_both(self):
        rose = Rose(FOUR, 2)
        for thing in THINGS + TEXTS + NUMBERS:
            for other in (0, "0", True, [], rose):
                self.refused(thing, lambda: shortest(rose, thing, other))
                self.refused(thing, lambda: shortest(within=other, turn=thing, rose=rose))

    def test_behind_a_refusal_all_is_told_as_ahead(self):
        rose = Rose(FOUR, 2)
        ahead = [str(shortest(rose, Turn(place, 40))) for place in range(40)]
        refused(self, NoTurn, lambda: shortest(rose, Turn(0), 0))
        refused(self, NoWind, lambda: shortest(rose, Turn(1, 33), Turn(0)))
        self.assertEqual([str(shortest(rose, Turn(place, 40))) for place in range(40)], ahead)
        self.assertEqual(rose, Rose(FOUR, 2))


if __name__ == "__main__":
    unittest.main()
