import random
import unittest

from refusals import refused
from rosenames.errors import NoStep, NoText
from rosenames.logs import read_log, show_log
from rosenames.roses import Rose
from rosenames.turns import Turn
from rosenames.walks import Walk
from samples import GREAT, all_names, roses
from things import NUMBERS, TEXTS, THINGS, deep

FOUR = ("n", "e", "s", "w")
ROSE = Rose(FOUR, 2)


def blanks(chance, least=0):
    return " " * (least + chance.choice((0, 0, 1, 2, 7)))


class ReadingTest(unittest.TestCase):
    def check(self, text, steps, rose=ROSE):
        walk = read_log(rose, text)
        self.assertIsInstance(walk, Walk)
        self.assertEqual(walk.rose, rose)
        self.assertEqual(walk.steps, steps, text)
        self.assertIs(type(walk.steps), tuple)
        self.assertTrue(all(type(many) is int for name, many in walk.steps))

    def test_examples(self):
        for text, steps in (
            ("n", (("n", 1),)),
            ("n 3", (("n", 3),)),
            ("  n   3  ", (("n", 3),)),
            (" e<<", (("e<<", 1),)),
            ("e<< ", (("e<<", 1),)),
            ("n 0", (("n", 0),)),
            ("n 000", (("n", 0),)),
            ("n 007", (("n", 7),)),
            ("n 000000007", (("n", 7),)),
            ("n 999999999", (("n", 999999999),)),
            ("n\ne", (("n", 1), ("e", 1))),
            ("n 2\n\n  \n# out\nn>\n", (("n", 2), ("n>", 1))),
            ("\n\nn", (("n", 1),)),
            ("# a\n# b", ()),
            ("#", ()),
            ("    #n 3", ()),
            ("#n\nn\n  # n", (("n", 1),)),
            ("# n 3 # 4 x\nw 5", (("w", 5),)),
            ("n 1\nn 1\ne< 2\nn> 2", (("n", 1), ("n", 1), ("e<", 2), ("n>", 2))),
        ):
            self.check(text, steps)

    def test_texts_that_tell_nothing(self):
        for text in ("", "\n", "\n\n\n", " ", "   \n  ", "#", " #", "# x\n\n #y"):
            self.check(text, ())
            self.assertEqual(len(read_log(text=text, rose=ROSE)), 0)

    def test_rows_drawn(self):
        chance = random.Random(22)
        for rose in roses(halvings=(0, 1, 3, 5)):
            names = all_names(rose)
            for _ in range(4):
                rows, steps = [], []
                for _ in range(chance.randint(0, 20)):
                    kind = chance.random()
                    if kind < 0.15:
                        rows.append(blanks(chance))
                    elif kind < 0.3:
                        rows.append(blanks(chance) + "#" + chance.choice(("", " ", "#", "n 1", " ~!% -", ">>")))
                    else:
                        name, many = chance.choice(names), chance.choice((0, 1, 12, 999999999))
                        figures = str(many).rjust(chance.randint(len(str(many)), 9), "0")
                        row = blanks(chance) + name + blanks(chance, 1) + figures
                        if many == 1 and chance.random() < 0.5:
                            row = blanks(chance) + name
                        rows.append(row + blanks(chance))
                        steps.append((name, many))
                self.check("\n".join(rows), tuple(steps), rose)

    def test_most_steps(self):
        self.check("\n".join(["n 2"] * 256), (("n", 2),) * 256)
        self.check("\n# x\n\n".join(["n 2"] * 256) + "\n\n  \n# end", (("n", 2),) * 256)


class RefusedTest(unittest.TestCase):
    def refused(self, row, text, rose=ROSE):
        got = refused(self, NoText, lambda: read_log(rose, text)).row
        self.assertEqual(got, row, text)
        self.assertIs(type(got), int)

    def test_rows_that_are_none(self):
        for row in ("x", "foehn> 1", "N", "n>>>", "n>>> 1", "n>e", ">", "1", "12", " 5 ", "1 n", "n n", "n e 1", "n 1 1",
                    "n 1 x", "n 1 #", "n 1 # x", "n # x", "n #", "n#", "n1", "n 0000000001", "n 1234567890", "n +1", "n -1",
                    "n 1.", "n 1,", "n 1e", "n a", "n >", "n>  > 1", "n ?", "-", "n -", "n 1_0", "n 0x1", "n, e", "n..e",
                    "n 1, e 2", "zephyrs", "n?", "*", "n" * 7, "n\t1", "%", "n 1/2"):
            self.refused(0, row)
            self.refused(0, row + "\nn")
            self.refused(0, "   " + row + "  ")
            self.refused(1, "n 1\n" + row)
            self.refused(3, "\n# x\nn 1\n" + row + "\nn\nx")
            self.refused(4, "n\nn\nn\n\n" + row)

    def test_names_of_other_roses(self):
        self.refused(1, "n\nn>", Rose(FOUR, 0))
        self.refused(0, "n>>", Rose(FOUR, 1))
        self.refused(2, "n\n\ns", Rose(("n", "e", "w")))
        self.assertEqual(len(read_log(Rose(FOUR, 5), "n><><>")), 1)

    def test_a_step_too_many(self):
        self.refused(256, "\n".join(["n"] * 257))
        self.refused(256, "\n".join(["n"] * 1000))
        self.refused(256, "\n".join(["n"] * 256 + ["x"]))
        self.refused(259, "\n".join(["", "# x"] + ["n"] * 256 + [" ", "n 0", "n"]))
        self.refused(100, "\n".join(["n"] * 100 + ["x"] + ["n"] * 300))
        self.assertEqual(len(read_log(ROSE, "\n".join(["n"] * 256 + ["", "#n", "  "]))), 256)

    def test_no_texts(self):
        for thing in THINGS + NUMBERS + (Walk(ROSE), ROSE, Turn(0), deep(10), ["n 1"], ("n", 1), b"n 1", b""):
            self.refused(0, thing)

    def test_behind_a_refusal_all_is_told_as_ahead(self):
        self.refused(1, "n 5\nx")
        self.assertEqual(read_log(ROSE, "").steps, ())
        self.assertEqual(read_log(ROSE, "e 2").steps, (("e", 2),))


class ShowingTest(unittest.TestCase):
    def wanted(self, walk, wide, noughts):
        rows = []
        for name, many in walk.steps:
            figures = str(many)
            rows.append(name + " " * max(0, wide - len(name)) + " " + "0" * max(0, noughts - len(figures)) + figures)
        return "\n".join(rows)

    def walks(self):
        chance = random.Random(23)
        for rose in roses(halvings=(0, 2, 5)):
            names = all_names(rose)
            for many in (0, 1, 2, 9, 256):
                yield Walk(rose, tuple((chance.choice(names), chance.choice((0, 1, 50, 999999999))) for _ in range(many)))

    def test_by_place_by_keyword_and_left_out(self):
        for walk in self.walks():
            self.assertEqual(show_log(walk), self.wanted(walk, 0, 0))
            for wide, noughts in ((0, 0), (1, 1), (5, 0), (0, 5), (20, 20), (12, 3), (3, 12)):
                text = self.wanted(walk, wide, noughts)
                self.assertIs(type(show_log(walk, wide, noughts)), str)
                self.assertEqual(show_log(walk, wide, noughts), text)
                self.assertEqual(show_log(walk, wide, noughts=noughts), text)
                self.assertEqual(show_log(noughts=noughts, wide=wide, walk=walk), text)
                self.assertEqual(show_log(walk, wide), self.wanted(walk, wide, 0))
                self.assertEqual(show_log(walk, wide=wide), self.wanted(walk, wide, 0))
                self.assertEqual(show_log(walk, noughts=noughts), self.wanted(walk, 0, noughts))

    def test_every_width(self):
        walk = Walk(ROSE, (("n", 12), ("e<<", GREAT), ("s", 0)))
        for wide in range(21):
            for noughts in range(21):
                self.assertEqual(show_log(walk, wide, noughts), self.wanted(walk, wide, noughts))

    def test_examples(self):
        walk = Walk(ROSE, (("n", 12), ("e<<", 3)))
        self.assertEqual(show_log(walk), "n 12\ne<< 3")
        self.assertEqual(show_log(walk, 4, 3), "n    012\ne<<  003")
        self.assertEqual(show_log(Walk(ROSE)), "")
        self.assertEqual(show_log(Walk(ROSE), 20, 20), "")
        self.assertEqual(show_log(Walk(ROSE, (("n", 10 ** 5000),))), "n 1" + "0" * 5000)

    def test_what_is_shown_reads_back(self):
        for walk in self.walks():
            for wide, noughts in ((0, 0), (7, 9), (20, 4)):
                again = read_log(walk.rose, show_log(walk, wide, noughts))
                self.assertEqual(again.steps, walk.steps)
                self.assertEqual(again, walk)

    def test_refusals(self):
        bad = (-1, 21, 22, -GREAT, GREAT) + THINGS + TEXTS + (Turn(0), ROSE, deep(10))
        for walk in (Walk(ROSE), Walk(ROSE, (("n", 1),))):
            for thing in bad:
                for deed in (
                    lambda: show_log(walk, thing),
                    lambda: show_log(walk, wide=thing),
                    lambda: show_log(walk, thing, 3),
                    lambda: show_log(walk, 3, thing),
                    lambda: show_log(walk, noughts=thing),
                    lambda: show_log(walk, thing, -1),
                    lambda: show_log(walk, wide=thing, noughts=None),
                ):
                    self.assertIs(refused(self, NoStep, deed).thing, thing)
            self.assertEqual(refused(self, NoStep, lambda: show_log(walk, -1, 21)).thing, -1)
            self.assertEqual(refused(self, NoStep, lambda: show_log(walk, noughts=-1, wide=21)).thing, 21)
        self.assertEqual(show_log(Walk(ROSE, (("n", 1),))), "n 1")


if __name__ == "__main__":
    unittest.main()
