import unittest
from fractions import Fraction

from refusals import refused
from rosenames.errors import NoPair, NoStep, NoWind
from rosenames.roses import Rose
from rosenames.turns import Turn
from rosenames.ways import across, halfway, turned, winds_to
from rosenames.winds import Wind, winds
from samples import GREAT, own_names, part_of, roses
from things import TEXTS, THINGS, deep

FOUR = ("n", "e", "s", "w")
THREE = ("a", "b", "c")


class TurnedTest(unittest.TestCase):
    def check(self, wind, rose, place):
        self.assertIsInstance(wind, Wind)
        self.assertEqual(wind.rose, rose)
        self.assertEqual(wind.place(), place % len(rose))

    def test_on_and_back(self):
        for rose in roses():
            for wind in winds(rose)[::5]:
                place = wind.place()
                self.check(turned(wind), rose, place + 1)
                self.check(turned(wind, back=True), rose, place - 1)
                for by in (0, 1, 2, 7, 255, 256, 1000, -1, -8, -300, GREAT, -GREAT, 10 ** 99, 1 - 10 ** 99):
                    self.check(turned(wind, by), rose, place + by)
                    self.check(turned(wind, by, True), rose, place - by)

    def test_by_place_and_by_keyword(self):
        rose = Rose(FOUR, 2, Turn(1, 3))
        wind = winds(rose)[3]
        self.check(turned(wind=wind), rose, 4)
        self.check(turned(wind, by=5), rose, 8)
        self.check(turned(wind, 5, False), rose, 8)
        self.check(turned(wind, 5, back=True), rose, -2)
        self.check(turned(back=True, by=-5, wind=wind), rose, 8)
        self.assertEqual(str(turned(Wind(Rose(FOUR), Turn(0)), -1)), "n<>")

    def test_refused(self):
        wind = winds(Rose(FOUR))[5]
        for thing in THINGS + TEXTS + (Turn(1, 2), wind, wind.rose, deep(10)):
            self.assertIs(refused(self, NoStep, lambda: turned(wind, thing)).thing, thing)
            self.assertIs(refused(self, NoStep, lambda: turned(wind, by=thing, back=True)).thing, thing)
        self.assertEqual(turned(wind).place(), 6)


class AcrossTest(unittest.TestCase):
    def test_opposite_winds(self):
        for rose in roses():
            for wind in winds(rose):
                if len(rose) % 2 == 0:
                    other = across(wind)
                    self.assertIsInstance(other, Wind)
                    self.assertEqual(other.rose, rose)
                    self.assertEqual(other.place(), (wind.place() + len(rose) // 2) % len(rose))
                    self.assertEqual(across(wind=other), wind)
                else:
                    refusal = refused(self, NoWind, lambda: across(wind))
                    self.assertIsInstance(refusal.thing, Turn)
                    self.assertEqual(part_of(refusal.thing), (part_of(wind.turn) + Fraction(1, 2)) % 1)

    def test_odd_roses(self):
        for words in (THREE, ("a", "b", "c", "d", "e"), ("a", "b", "c", "d", "e", "f", "g")):
            rose = Rose(words, 0)
            self.assertEqual(refused(self, NoWind, lambda: across(Wind(rose, Turn(0)))).thing, Turn(1, 2))
            self.assertEqual(across(Wind(Rose(words, 1), Turn(0))).turn, Turn(1, 2))


class WindsToTest(unittest.TestCase):
    def test_all_pairs(self):
        for rose in roses(halvings=(0, 1, 3)):
            for one in winds(rose)[::3]:
                for other in winds(rose)[::2]:
                    self.assertEqual(winds_to(one, other), (other.place() - one.place()) % len(rose))
                    self.assertEqual(turned(one, winds_to(one, other)), other)

    def test_roses_alike_though_made_twice(self):
        one = Wind(Rose(FOUR, 2, Turn(1, 4)), Turn(1, 2))
        other = Wind(Rose(FOUR, 2, Turn(2, 8)), Turn(1, 4))
        self.assertEqual(winds_to(one, other), 12)
        self.assertEqual(winds_to(other=one, one=other), 4)
        self.assertEqual(winds_to(one, one), 0)

    def test_refused(self):
        one = Wind(Rose(FOUR, 2), Turn(0))
        for rose in (Rose(FOUR, 3), Rose(FOUR, 1), Rose(("n", "e", "w", "s")), Rose(THREE), Rose(FOUR, 2, Turn(1, 2))):
            other = Wind(rose, Turn(0))
            self.assertEqual(one, other)
            refused(self, NoPair, lambda: winds_to(one, other))
            refused(self, NoPair, lambda: winds_to(other, one))
        self.assertEqual(winds_to(one, Wind(Rose(FOUR, 2), Turn(1, 16))), 1)


class HalfwayTest(unittest.TestCase):
    def wanted(self, one, other, long):
        """Both ways, one by one, the shorter one first."""
        on = (other - one) % 1
        ways = [on, on - 1]
        if 1 - on < on:
            ways = ways[::-1]
        return (one + ways[1 if long else 0] / 2) % 1

    def check(self, one, other):
        mine, theirs = part_of(one.turn), part_of(other.turn)
        for long, told in ((False, halfway(one, other)), (False, halfway(one, other, False)),
                           (True, halfway(one, other, True)), (True, halfway(one, other, long=True)),
                           (False, halfway(one=one, other=other, long=False))):
            self.assertIsInstance(told, Turn)
            self.assertEqual(part_of(told), self.wanted(mine, theirs, long))

    def test_winds_of_one_rose(self):
        for rose in roses(halvings=(0, 2)):
            for one in winds(rose):
                for other in winds(rose):
                    self.check(one, other)

    def test_winds_of_two_roses(self):
        for mine in roses(halvings=(1,)):
            for theirs in roses(halvings=(0, 2)):
                for one in winds(mine)[::3]:
                    for other in winds(theirs)[::5]:
                        self.check(one, other)

    def test_examples(self):
        rose = Rose(FOUR, 2)
        some = winds(rose)
        self.assertEqual(halfway(some[0], some[4]), Turn(1, 8))
        self.assertEqual(halfway(some[4], some[0]), Turn(1, 8))
        self.assertEqual(halfway(some[0], some[4], True), Turn(5, 8))
        self.assertEqual(halfway(some[1], some[15]), Turn(0))
        self.assertEqual(halfway(some[1], some[15], long=True), Turn(1, 2))

    def test_opposite_winds(self):
        some = winds(Rose(FOUR, 2))
        self.assertEqual(halfway(some[0], some[8]), Turn(1, 4))
        self.assertEqual(halfway(some[8], some[0]), Turn(3, 4))
        self.assertEqual(halfway(some[0], some[8], long=True), Turn(3, 4))
        self.assertEqual(halfway(some[8], some[0], long=True), Turn(1, 4))

    def test_alike_winds(self):
        one = Wind(Rose(FOUR, 2), Turn(1, 8))
        for other in (one, Wind(Rose(FOUR, 3), Turn(1, 8)), Wind(Rose(THREE, 0, Turn(1, 8)), Turn(1, 8))):
            self.assertEqual(halfway(one, other), Turn(1, 8))
            self.assertEqual(halfway(one, other, True), Turn(5, 8))

    def test_nothing_asked_changes_the_winds(self):
        rose = Rose(FOUR, 1, Turn(1, 3))
        some = winds(rose)
        for wind in some:
            turned(wind, 3)
            across(wind)
            winds_to(wind, some[0])
            halfway(wind, some[1], True)
        self.assertEqual([str(wind) for wind in some], own_names(rose))


if __name__ == "__main__":
    unittest.main()
