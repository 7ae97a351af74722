import functools
import itertools
import random
import re
import unittest

from refusals import refused
from rosenames.errors import NoName
from rosenames.roses import Rose, read_rose
from rosenames.tearing import healed, torn
from rosenames.turns import Turn
from rosenames.winds import Wind, wind_of, winds
from samples import all_names, part_of, part_told, roses
from things import NUMBERS, THINGS, deep

FOUR = ("n", "e", "s", "w")
NEAR_WORDS = Rose(("no", "na", "n", "nor", "north"), 2)
DEEP = Rose(("ab", "aab", "a", "b", "bb", "abab"), 5)

TEXTS = (
    "*", "**", "?", "??", "???", "????????????", "*?", "?*", "*?*", "?*?", "*??*", "*n", "n*", "*n*", "n?", "?n", "n",
    "n>", "n>>", "n<>", ">", "<", "<>", "*>", "*<", ">*", "<*", "*>*", "*<>*", "*><", "n?*", "?o*", "no*", "nor*",
    "*or*", "north", "n*h", "n*>", "n*<*", "*r*>", "**>", "**n", "n**", ">**", "?>", "??>", "?>?", "a*b", "a?b", "*a*b",
    "a*b*", "ab*", "aab?", "*b>", "*bb", "abab<<<<<", "?????>????", "*>>>>>", "*<<<<<<", "b<*>", "*?????", "a*>*",
    "n>n", "*n>n*", "x", "x*", "*x*", "zephyr>>>>>", "zephy?*", "?ephyr?", "z*r", "*ephy*>", "abcdefghijkl",
    ">>>>>>>>>>>>", "*??????????*", "?*?????????*", "n>*", "n<*>", "*<", "**<>", "s?w", "*e*", "*>?", "?<<", "?>*<",
)


def names_like(rose, text):
    """All names of a rose, one by one, that a torn name can be: asked of Python's own patterns."""
    pattern = re.compile("".join({"?": ".", "*": ".*"}.get(sign, re.escape(sign)) for sign in text))
    return [name for name in names_of(rose) if pattern.fullmatch(name)]


@functools.cache
def names_of_text(text):
    return all_names(read_rose(text))


def names_of(rose):
    return names_of_text(str(rose))


class TornTest(unittest.TestCase):
    def check(self, rose, text):
        told = torn(rose, text)
        self.assertIs(type(told), tuple)
        self.assertEqual(told, tuple(sorted(names_like(rose, text))), text)

    def test_against_all_names(self):
        for rose in roses():
            for text in TEXTS:
                self.check(rose, text)

    def test_every_short_text(self):
        for signs in range(1, 5):
            for text in itertools.product("n<>?*o", repeat=signs):
                if text.count("*") <= 2:
                    self.check(NEAR_WORDS, "".join(text))

    def test_names_with_signs_lost(self):
        chance = random.Random(13)
        for rose in roses(halvings=(0, 1, 3, 5)):
            for name in chance.sample(all_names(rose), 8 if rose.halvings else 2):
                self.check(rose, name)
                self.assertEqual(torn(rose, name), (name,))
                for _ in range(6):
                    text = "".join(chance.choice((sign, sign, "?")) for sign in name)
                    self.check(rose, text)
                    self.assertIn(name, torn(rose, text))
                    for _ in range(2):
                        one, other = sorted((chance.randint(0, len(text)), chance.randint(0, len(text))))
                        text = text[:one] + "*" + text[other:]
                        if len(text) <= 12 and text.count("*") <= 2:
                            self.check(rose, text)
                            self.assertIn(name, torn(rose, text))

    def test_examples(self):
        rose = Rose(FOUR, 1)
        self.assertEqual(torn(rose, "?>"), ("e>", "n>", "s>", "w>"))
        self.assertEqual(torn(rose, "n*"), ("n", "n<", "n>"))
        self.assertEqual(torn(text="n*", rose=rose), ("n", "n<", "n>"))
        self.assertEqual(torn(NEAR_WORDS, "n?"), ("n<", "n>", "na", "no"))
        self.assertEqual(torn(NEAR_WORDS, "no??"), ("no<<", "no<>", "no><", "no>>", "nor<", "nor>"))
        self.assertEqual(len(torn(DEEP, "*")), 6 * 63)

    def test_none(self):
        for text in (">", "x", "n>>", "?>?", "nn", ">n", "*x*", "????????????"):
            self.assertEqual(torn(Rose(FOUR, 1), text), ())

    def test_no_mark_where_nothing_is_halved(self):
        rose = Rose(FOUR, 0)
        self.assertEqual(torn(rose, "*"), ("e", "n", "s", "w"))
        self.assertEqual(torn(rose, "*>"), ())

    def test_told_again(self):
        for text in TEXTS:
            self.assertEqual(torn(DEEP, text), torn(DEEP, text))


class HealedTest(unittest.TestCase):
    def test_against_all_names(self):
        for rose in roses():
            for text in TEXTS[::1 if len(rose) < 50 else 4]:
                parts = {part_told(rose, name) for name in names_like(rose, text)}
                wind = healed(rose, text)
                if len(parts) == 1:
                    self.assertIsInstance(wind, Wind)
                    self.assertEqual(wind.rose, rose)
                    self.assertEqual([part_of(wind.turn)], list(parts))
                else:
                    self.assertIsNone(wind)

    def test_one_name(self):
        for rose in roses():
            for name in all_names(rose)[::7]:
                wind = healed(rose, name)
                self.assertEqual(wind, wind_of(rose, name))
                self.assertEqual(wind.rose, rose)

    def test_both_names_of_one_wind(self):
        # They differ at the first mark, on and back, and no text tells these
        # apart that can be both: so it can be a name of another wind, too.
        for rose in roses(halvings=(1, 2, 3)):
            for wind in winds(rose):
                if len(wind) == 0:
                    continue
                own, other = wind.names()
                texts = ["*", "*" + own[-len(wind):].replace(">", "?").replace("<", "?")]
                texts.append("*?" + own[len(own) - len(wind) + 1:])
                if len(own) == len(other):
                    texts.append("".join(mine if mine == theirs else "?" for mine, theirs in zip(own, other)))
                for text in texts:
                    self.assertLessEqual({own, other}, set(torn(rose, text)))
                    self.assertIsNone(healed(rose, text))

    def test_either_name_of_one_wind(self):
        rose = Rose(("ax", "bx", "c"), 1)
        self.assertEqual(torn(rose, "?x>"), ("ax>", "bx>"))
        self.assertIsNone(healed(rose, "?x>"))
        self.assertEqual(healed(rose, "a*>"), wind_of(rose, "bx<"))
        self.assertEqual(str(healed(text="b*<", rose=rose)), "ax>")

    def test_no_one_wind(self):
        rose = Rose(FOUR, 2)
        for text in ("*", "?", "n*", "?>", "n?", "x", ">", "n>>>", "*x", "????????????"):
            self.assertIsNone(healed(rose, text))


class RefusedTest(unittest.TestCase):
    def refused(self, thing, at):
        for rose in (Rose(FOUR, 0), NEAR_WORDS, DEEP):
            self.assertEqual(refused(self, NoName, lambda: torn(rose, thing)).at, at, thing)
            self.assertEqual(refused(self, NoName, lambda: healed(rose, thing)).at, at, thing)

    def test_other_signs(self):
        for sign in ("N", "A", "Z", " ", "\n", "0", "9", ".", ",", "-", "/", "=", "[", "@", "`", "{", "~", "+", "!"):
            self.refused(sign, 0)
            self.refused(sign + "n>", 0)
            self.refused("n" + sign, 1)
            self.refused("*" + sign + "*", 1)
            self.refused("n>?" + sign, 3)
            self.refused("n>?" + sign + "N***", 3)
            self.refused("abcdefghijk" + sign, 11)

    def test_all_other_signs(self):
        for code in range(32, 127):
            if not chr(code).islower() and chr(code) not in "<>?*":
                self.refused("n" + chr(code), 1)
            else:
                self.assertIsInstance(torn(NEAR_WORDS, "n" + chr(code)), tuple)

    def test_a_third_star(self):
        self.refused("***", 2)
        self.refused("*n*>*", 4)
        self.refused("**?????????*", 11)
        self.refused("*****", 2)
        self.refused("n***N", 3)

    def test_a_thirteenth_sign(self):
        for sign in ("a", ">", "?", "*", "N", " "):
            self.refused("?" * 12 + sign, 12)
            self.refused("*abcdefghij*" + sign, 12)
            self.refused("a" * 12 + sign * 3, 12)
        self.refused("a" * 20000, 12)

    def test_the_text_without_signs(self):
        self.refused("", 0)

    def test_no_texts(self):
        for thing in THINGS + NUMBERS + (Turn(0), NEAR_WORDS, deep(10), ["*"], ("n", ">"), b"n*"):
            self.refused(thing, 0)

    def test_behind_a_refusal_all_is_told_as_ahead(self):
        ahead = [torn(NEAR_WORDS, text) for text in TEXTS]
        self.refused("***", 2)
        self.assertEqual([torn(NEAR_WORDS, text) for text in TEXTS], ahead)


if __name__ == "__main__":
    unittest.main()
