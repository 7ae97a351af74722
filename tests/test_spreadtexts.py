import random
import unittest

from refusals import alike, refused
from rosenames.errors import NoText
from rosenames.roses import Rose
from rosenames.spreads import Spread
from rosenames.spreadtexts import read_spread
from rosenames.turns import Turn
from rosenames.winds import winds
from samples import names_by_part, roses, wind_parts
from things import NUMBERS, THINGS, deep

FOUR = ("n", "e", "s", "w")
ROSE = Rose(FOUR, 2)


def places_in(spread):
    return {wind.place() for wind in spread.winds_in()}


class ReadingTest(unittest.TestCase):
    def test_what_str_writes(self):
        chance = random.Random(20)
        for rose in roses():
            spreads = [Spread(rose), Spread(rose).rest()]
            for wind in winds(rose)[:3] + winds(rose)[-3:]:
                one = Spread(rose, (str(wind),))
                spreads += [one, one.rest()]
            for share in (0.1, 0.5, 0.9):
                names = [str(wind) for wind in winds(rose) if chance.random() < share]
                spreads.append(Spread(rose, tuple(names)))
            for spread in spreads:
                again = read_spread(rose, str(spread))
                self.assertIsInstance(again, Spread)
                alike(self, again, spread, True)
                self.assertEqual(str(again), str(spread))

    def test_any_order_any_names_and_more_than_once(self):
        chance = random.Random(21)
        for rose in roses(halvings=(0, 1, 2, 5)):
            names = names_by_part(rose)
            parts = wind_parts(rose)
            for _ in range(6):
                wanted = set()
                texts = []
                for _ in range(chance.randint(1, 6)):
                    first, long = chance.randrange(len(rose)), chance.choice((1, 1, 2, 3, chance.randint(1, len(rose))))
                    last = (first + long - 1) % len(rose)
                    ends = [chance.choice(names[parts[place]]) for place in (first, last)]
                    texts.append(ends[0] if long == 1 and chance.random() < 0.5 else "..".join(ends))
                    wanted |= {(first + more) % len(rose) for more in range(long)}
                texts += chance.sample(texts, chance.randint(0, len(texts)))
                chance.shuffle(texts)
                spread = read_spread(rose, ", ".join(texts))
                self.assertEqual(spread.rose, rose)
                self.assertEqual(places_in(spread), wanted)
                self.assertEqual(len(spread), len(wanted))

    def test_examples(self):
        for text, places in (
            ("n", {0}),
            ("e<<", {1}),
            ("n..e", {0, 1, 2, 3, 4}),
            ("w..n", {12, 13, 14, 15, 0}),
            ("s, n", {0, 8}),
            ("n, n, n..n><", {0, 1}),
            ("e..n", set(range(16)) - {1, 2, 3}),
            ("n><..n", set(range(16))),
            ("n..n<>", set(range(16))),
            ("n..w>>", set(range(16))),
        ):
            self.assertEqual(places_in(read_spread(ROSE, text)), places, text)
            self.assertEqual(places_in(read_spread(text=text, rose=ROSE)), places, text)

    def test_from_a_wind_to_itself(self):
        for rose in roses(halvings=(0, 1, 3)):
            for wind in winds(rose):
                for one in wind.names():
                    for other in wind.names():
                        self.assertEqual(places_in(read_spread(rose, f"{one}..{other}")), {wind.place()})

    def test_none(self):
        for rose in roses():
            alike(self, read_spread(rose, "-"), Spread(rose), True)

    def test_a_long_text(self):
        rose = Rose(FOUR, 5)
        text = ", ".join(["n><<<<..n"] * 1650)
        self.assertEqual(len(read_spread(rose, text)), 128)


class RefusedTest(unittest.TestCase):
    def refused(self, row, text, rose=ROSE):
        self.assertEqual(refused(self, NoText, lambda: read_spread(rose, text)).row, row, text)

    def test_parts_that_are_none(self):
        for part in ("", " ", "N", "x", "foehn>", "n>>>", "n..x", "x..n", "n..n>>>", "n>>>..n", "n..e..s", "n..", "..n",
                     "..", "n.", "n.e", "n...e", "n....e", "n .. e", "n.. e", " n", "n ", "n\n", "\nn", "n,e", "n,",
                     "n;e", "zephyrs", "-", "--", "-..-", "n..-", "-..n", "n-e", "n>e", ">", "n(", "?", "*", "n..*", "0",
                     "Spread(n)", "n e"):
            if part != "-":
                self.refused(0, part)
            self.refused(0, f"{part}, n")
            self.refused(1, f"n, {part}")
            self.refused(1, f"n..e, {part}, s")
            self.refused(3, f"n, n, e<..s, {part}")
            self.refused(1, f"n, {part}, x, ")

    def test_blanks(self):
        self.refused(1, "n,  e")
        self.refused(0, "n , e")
        self.refused(0, "n,e")
        self.refused(0, "n e")
        self.refused(1, "n, e ")
        self.refused(0, " n, e")
        self.refused(1, "n, ")
        self.refused(0, ", n")
        self.refused(1, "n, , e")
        self.refused(0, ", ")
        self.refused(1, "n, e,")
        self.refused(1, "n, e,s, w")
        self.refused(0, "n,\ne")
        self.refused(0, "- ")
        self.refused(0, " -")

    def test_the_sign_of_none_among_others(self):
        self.refused(0, "-, n")
        self.refused(1, "n, -")
        self.refused(0, "-, -")
        self.refused(2, "n, e, -, s")

    def test_the_text_without_signs(self):
        self.refused(0, "")

    def test_names_of_other_roses(self):
        self.refused(0, "n>", Rose(FOUR, 0))
        self.refused(1, "n>, n><", Rose(FOUR, 1))
        self.refused(1, "n, n..s>", Rose(("n", "e", "w"), 1))
        self.assertEqual(len(read_spread(Rose(FOUR, 5), "n><><>")), 1)
        self.refused(0, "n><><><", Rose(FOUR, 5))

    def test_no_texts(self):
        for thing in THINGS + NUMBERS + (Spread(ROSE), ROSE, Turn(0), deep(10), ["n"], ("n", "e"), b"n", b"-"):
            self.refused(0, thing)

    def test_behind_a_refusal_all_is_told_as_ahead(self):
        self.refused(2, "n, e, x")
        self.assertEqual(str(read_spread(ROSE, "s")), "s")
        self.assertEqual(ROSE, Rose(FOUR, 2))


if __name__ == "__main__":
    unittest.main()
