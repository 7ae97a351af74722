import random
import unittest

from refusals import refused
from rosenames.deeds import do
from rosenames.desk import Desk
from rosenames.errors import NoDeed, NoName, NoRow, NoSuch, NoText, NoWalk, NoWind, NoWord
from rosenames.near import nearest, shortest
from rosenames.roses import Rose
from rosenames.spreads import Spread
from rosenames.spreadtexts import read_spread
from rosenames.tearing import torn
from rosenames.turns import Turn
from rosenames.walks import Walk
from rosenames.winds import wind_of, winds
from samples import all_names, names_by_part, part_told, roses
from things import NUMBERS, THINGS, deep

FOUR = ("n", "e", "s", "w")
ROSE = Rose(FOUR, 2)
FIRST_WORDS = ("face", "wind", "names", "turn", "do", "near", "short", "torn", "keep", "show", "rest", "join", "meet",
               "less", "go", "walk", "least", "home", "anew", "paper")
# A good row of each form, of a desk that keeps spreads by a and b.
GOOD = ("face e<", "wind", "names", "turn", "do on", "do back 3", "near 1/3", "short 1/3 1/20", "torn n*", "keep c n, e",
        "keep c n..e, s", "show a", "rest a", "join a b", "meet a b", "less a b", "go n 3", "walk", "least", "home", "anew",
        "paper")


def held(desk, words=("a", "b")):
    """All that a desk tells of itself."""
    told = [desk.say(row) for row in ("wind", "names", "turn", "walk", "least", "home", "paper")]
    for word in words:
        try:
            told.append(desk.say("show " + word))
        except NoSuch:
            told.append(None)
    return told


def kept_desk():
    """A desk with a wind, a walk and two spreads."""
    desk = Desk(ROSE)
    for row in ("face e<", "go n 3", "go s 1", "go e< 2", "keep a n..e, s", "keep b e..w"):
        assert desk.say(row) == "ok"
    return desk


class DeskTest(unittest.TestCase):
    def says(self, desk, row, wanted):
        told = desk.say(row)
        self.assertIs(type(told), str)
        self.assertEqual(told, wanted, row)


class WindTest(DeskTest):
    def test_at_first(self):
        for rose in roses():
            desk = Desk(rose)
            self.says(desk, "wind", rose.words[0])
            self.says(desk, "names", rose.words[0])
            self.says(desk, "turn", str(rose.begin))
            self.says(desk, "walk", "-")
            self.says(desk, "home", "home")
            self.says(desk, "least", "-")
            self.says(desk, "paper", "holds")
            for word in rose.words:
                refused(self, NoSuch, lambda: desk.say("show " + word))
        self.says(Desk(rose=ROSE), "wind", "n")
        self.assertEqual(Desk(ROSE).say(row="wind"), "n")

    def test_face(self):
        chance = random.Random(24)
        for rose in roses(halvings=(0, 1, 3, 5)):
            desk = Desk(rose)
            names = names_by_part(rose)
            for name in chance.choices(all_names(rose), k=12):
                self.says(desk, "face " + name, "ok")
                all_of_them = names[part_told(rose, name)]
                self.says(desk, "wind", all_of_them[0])
                self.says(desk, "names", " ".join(all_of_them))
                self.says(desk, "turn", str(wind_of(rose, name).turn))

    def test_do(self):
        chance = random.Random(25)
        for rose in roses(halvings=(0, 2, 4)):
            desk = Desk(rose)
            wind = wind_of(rose, rose.words[0])
            for _ in range(25):
                deed = chance.choice(("on", "back", "corner", "own", "across" if len(rose) % 2 == 0 else "on"))
                number = chance.choice((None, 0, 1, 5, 999999999))
                wind = do(deed, wind) if number is None else do(deed, wind, number)
                self.says(desk, f"do {deed}" if number is None else f"do {deed} {number}", str(wind))
                self.says(desk, "wind", str(wind))

    def test_near_and_short(self):
        chance = random.Random(26)
        for rose in roses(halvings=(0, 2, 5)):
            desk = Desk(rose)
            desk.say("face " + rose.words[1])
            for _ in range(8):
                turn = Turn(chance.randrange(10 ** 6), chance.randint(1, 10 ** 6))
                within = Turn(1, chance.randint(2, 100))
                self.says(desk, f"near {turn}", str(nearest(rose, turn)))
                try:
                    wanted = str(shortest(rose, turn, within))
                except NoWind:
                    refusal = refused(self, NoWind, lambda: desk.say(f"short {turn} {within}"))
                    self.assertEqual(refusal.thing, turn)
                else:
                    self.says(desk, f"short {turn} {within}", wanted)
            self.says(desk, "wind", rose.words[1])

    def test_torn(self):
        for rose in roses(halvings=(0, 2)):
            desk = Desk(rose)
            for text in ("*", "n*", "?", "n", "??", "x", "*>", "z*r<*", "abcdefghijkl"):
                self.says(desk, "torn " + text, " ".join(torn(rose, text)) or "-")
        self.says(Desk(ROSE), "torn n?", "n< n>")
        self.says(Desk(ROSE), "torn x*", "-")


class SpreadsTest(DeskTest):
    def test_as_the_spreads_tell(self):
        chance = random.Random(27)
        for rose in roses(halvings=(0, 1, 3)):
            desk = Desk(rose)
            spreads = []
            for word in ("one", "other"):
                names = tuple(str(wind) for wind in winds(rose) if chance.random() < 0.5)
                spreads.append(Spread(rose, names))
                self.says(desk, f"keep {word} {spreads[-1]}", "ok")
            one, other = spreads
            for _ in range(2):
                self.says(desk, "show one", str(one))
                self.says(desk, "rest other", str(other.rest()))
                self.says(desk, "join one other", str(one.joined(other)))
                self.says(desk, "meet one other", str(one.met(other)))
                self.says(desk, "less one other", str(one.without(other)))
                self.says(desk, "less other one", str(other.without(one)))
                self.says(desk, "join one one", str(one))
                self.says(desk, "less one one", "-")
            self.says(desk, "show other", str(other))

    def test_keep(self):
        desk = Desk(ROSE)
        for text, shown in (("n", "n"), ("-", "-"), ("e<<", "n><"), ("s, n", "n, s"), ("n..e, s, w>>", "s, n<>..e"),
                            ("w..n, n", "w..n"), ("n><..n", "n..n<>")):
            self.says(desk, f"keep a {text}", "ok")
            self.says(desk, "show a", shown)
            self.assertEqual(shown, str(read_spread(ROSE, text)))
        self.says(desk, "keep b e", "ok")
        self.says(desk, "show a", "n..n<>")
        self.says(desk, "show b", "e")
        self.says(desk, "keep a s", "ok")
        self.says(desk, "show a", "s")
        self.says(desk, "show b", "e")

    def test_words(self):
        desk = Desk(ROSE)
        for word in ("a", "z", "n", "keep", "show", "abcdef", "zzzzzz"):
            self.says(desk, f"keep {word} n", "ok")
            self.says(desk, f"show {word}", "n")


class WalkTest(DeskTest):
    def test_as_the_walk_tells(self):
        chance = random.Random(28)
        for rose in roses(halvings=(0, 1, 3)):
            desk = Desk(rose)
            walk = Walk(rose)
            for _ in range(12):
                name, number = chance.choice(all_names(rose)), chance.choice((0, 1, 7, 999999999))
                walk = walk.then(name, number)
                self.says(desk, f"go {name} {number}", "ok")
                self.says(desk, "walk", str(walk))
                self.says(desk, "least", str(walk.least()))
                self.says(desk, "home", "home" if walk.home() else "away")
                self.says(desk, "paper", "holds")
            self.says(desk, "anew", "ok")
            self.says(desk, "walk", "-")
            self.says(desk, "home", "home")

    def test_home_and_away(self):
        desk = Desk(ROSE)
        for row, home in (("go n 2", "away"), ("go s 1", "away"), ("go s 1", "home"), ("go e< 3", "away"),
                          ("go s> 3", "home"), ("go w 0", "home")):
            self.says(desk, row, "ok")
            self.says(desk, "home", home)
            self.says(desk, "paper", "holds")
        self.says(desk, "walk", "n 2, s 1, s 1, e< 3, s> 3, w 0")
        self.says(desk, "least", "-")

    def test_the_257th_step(self):
        desk = Desk(ROSE)
        for _ in range(256):
            self.says(desk, "go e< 2", "ok")
        ahead = held(desk)
        for row in ("go e< 2", "go n 0", "go x 1", "go n>>> 1"):
            self.assertIsNone(refused(self, NoWalk, lambda: desk.say(row)).number)
            self.assertEqual(held(desk), ahead)
        self.says(desk, "walk", ", ".join(["e< 2"] * 256))
        self.says(desk, "least", "n> 512")
        self.says(desk, "anew", "ok")
        self.says(desk, "go e< 2", "ok")
        self.says(desk, "walk", "e< 2")

    def test_paper_that_is_not_taken(self):
        # The answer is the checker's, not the house's.
        from rosenames import desk as module
        real = module.holds
        asked = []

        def never(claim, paper):
            asked.append((claim, paper))
            return False

        desk = kept_desk()
        module.holds = never
        try:
            self.says(desk, "paper", "no")
        finally:
            module.holds = real
        self.assertEqual(asked[0][0], ("away", Walk(ROSE, (("n", 3), ("s", 1), ("e<", 2))).totals()))
        self.says(desk, "paper", "holds")


class StateTest(DeskTest):
    def parts(self, desk):
        return {"wind": desk.say("wind"), "walk": desk.say("walk"), "kept": [desk.say("show a"), desk.say("show b")]}

    def test_what_each_row_changes(self):
        changes = {"face": "wind", "do": "wind", "go": "walk", "anew": "walk"}
        for row in GOOD:
            desk = kept_desk()
            desk.say("face s>")
            ahead = self.parts(desk)
            desk.say(row)
            now = self.parts(desk)
            changing = changes.get(row.split(" ")[0])
            for part, told in ahead.items():
                self.assertEqual(now[part] != told, part == changing, row)

    def test_two_desks_of_one_rose(self):
        one, other = Desk(ROSE), Desk(ROSE)
        for row in ("face e<", "go n 3", "keep a n..e"):
            self.says(one, row, "ok")
        self.says(other, "wind", "n")
        self.says(other, "walk", "-")
        refused(self, NoSuch, lambda: other.say("show a"))
        self.says(other, "keep a s", "ok")
        self.says(other, "do on", "n><")
        self.says(other, "go w 1", "ok")
        self.says(one, "show a", "n..e")
        self.says(one, "wind", "n>")
        self.says(one, "walk", "n 3")
        self.assertEqual(ROSE, Rose(FOUR, 2))


class NoRowTest(DeskTest):
    def refuses(self, row, desk=None):
        desk = desk or kept_desk()
        ahead = held(desk)
        refused(self, NoRow, lambda: desk.say(row))
        self.assertEqual(held(desk), ahead, row)

    def test_no_text(self):
        for thing in THINGS + NUMBERS + (ROSE, Turn(0), deep(10), ["wind"], ("wind",), b"wind"):
            self.refuses(thing)

    def test_other_first_words(self):
        for word in ("", " ", "Wind", "winds", "win", "WIND", "n", "ok", "-", "deed", "wind\n", "\nwind", "say", "kept",
                     "text", "0", "keeps", "faces", "#"):
            self.refuses(word)
            self.refuses(word + " n")
            self.refuses(word + " a b")
            self.refuses(word + " a n, e")

    def test_other_numbers_of_words(self):
        for row in GOOD:
            if row.startswith("keep"):
                continue
            self.refuses(row + " more words than that")
            if row != "do on":
                self.refuses(row + " 1")
            self.refuses(row + " 1 1")
            if " " in row and row != "do back 3":
                self.refuses(row.rpartition(" ")[0])
        for row in ("face", "do", "near", "short", "short 1/2", "torn", "keep", "keep a", "show", "rest", "join", "join a",
                    "meet", "meet a", "less", "less a", "go", "go n", "do on 1 1"):
            self.refuses(row)

    def test_blanks_at_an_end(self):
        for row in GOOD:
            self.refuses(" " + row)
            if row.startswith(("keep", "do on")):
                continue
            self.refuses(row + " ")
            self.refuses(" " + row + " ")
        self.refuses("do on ")
        self.refuses("do on 1 ")
        self.refuses("go n ")

    def test_two_blanks_running(self):
        for row in GOOD:
            if " " in row and not row.startswith("do on"):
                self.refuses(row.replace(" ", "  ", 1))
        self.refuses("do  on 1")
        self.refuses("do on  1")
        self.refuses("go n  1")
        self.refuses("keep  n")
        self.refuses("join a  b")
        self.refuses("short 1/2  1/3")

    def test_numbers(self):
        for number in ("00", "01", "007", "1000000000", "0000000001", "9999999999", "-1", "+1", "1.", "1,0", "a", "one",
                       "1a", "0x1", "1_0", "-", "-0", "", "1/2", "n", ">", "1\n", "\n1"):
            self.refuses("do on " + number)
            self.refuses("do own " + number)
            self.refuses("go n " + number)
            self.refuses("do nothing " + number)
            self.refuses("go x " + number)
        for number in ("0", "1", "10", "999999999"):
            self.says(kept_desk(), "go n " + number, "ok")
            kept_desk().say("do on " + number)

    def test_turns(self):
        for turn in ("", "1", "0/1", "2/4", "1/1", "3/2", "-1/2", "1/-2", "01/2", "1/02", "1/0", "1/", "/2", "1/2/3", "00",
                     "+1/2", "1.5", "n", "1|2", "a/b", "0\n", "1/2\n"):
            self.refuses("near " + turn)
            self.refuses(f"short {turn} 1/2")
            self.refuses(f"short 1/2 {turn}")
            self.refuses(f"short {turn} {turn}")
        for turn in ("0", "1/2", "359/360"):
            kept_desk().say("near " + turn)
            self.says(kept_desk(), f"short {turn} 1/2", shown_near(turn))

    def test_words(self):
        for word in ("", "A", "aB", "abcdefg", "a1", "a>", "n<", "-", "a-b", "a.", "1", "?", "a\n"):
            self.refuses(f"keep {word} n")
            self.refuses(f"keep {word} x")
            self.refuses(f"show {word}")
            self.refuses(f"rest {word}")
            for first in ("join", "meet", "less"):
                self.refuses(f"{first} {word} a")
                self.refuses(f"{first} a {word}")
                # Ahead of a word by which nothing is kept, wherever this stands.
                self.refuses(f"{first} {word} x")
                self.refuses(f"{first} x {word}")


def shown_near(text):
    top, _, bottom = text.partition("/")
    return str(shortest(ROSE, Turn(int(top), int(bottom or 1)), Turn(1, 2)))


class OtherRefusalsTest(DeskTest):
    def refuses(self, kind, row, field, wanted):
        desk = kept_desk()
        ahead = held(desk)
        refusal = refused(self, kind, lambda: desk.say(row))
        self.assertEqual(getattr(refusal, field), wanted, row)
        self.assertEqual(held(desk), ahead, row)

    def test_no_such(self):
        for row, word in (("show x", "x"), ("rest x", "x"), ("join x a", "x"), ("join a x", "x"), ("join x y", "x"),
                          ("meet y x", "y"), ("meet a y", "y"), ("less y a", "y"), ("less b zzzzzz", "zzzzzz"),
                          ("show n", "n"), ("show keep", "keep"), ("less x x", "x")):
            self.refuses(NoSuch, row, "word", word)

    def test_names(self):
        for name, at in (("", 0), ("N", 0), ("n>>>", 3), ("n>e", 2), ("-", 0), ("n\n", 1), ("x>>>", 3), ("zephyrs", 6)):
            self.refuses(NoName, "face " + name, "at", at)
        for name, word in (("x", "x"), ("foehn>", "foehn"), ("wind<>", "wind")):
            self.refuses(NoWord, "face " + name, "word", word)

    def test_torn_names(self):
        for text, at in (("", 0), ("N", 0), ("***", 2), ("n.", 1), ("abcdefghijklm", 12), ("n*\n", 2), ("0", 0)):
            self.refuses(NoName, "torn " + text, "at", at)

    def test_deeds(self):
        for word in ("", "On", "forth", "on\n", "n", "ok", "1"):
            self.refuses(NoDeed, "do " + word, "word", word)
            self.refuses(NoDeed, f"do {word} 3", "word", word)

    def test_no_opposite_wind(self):
        desk = Desk(Rose(("a", "b", "c"), 0))
        desk.say("face b")
        self.assertEqual(refused(self, NoWind, lambda: desk.say("do across")).thing, Turn(5, 6))
        self.assertEqual(refused(self, NoWind, lambda: desk.say("do across 4")).thing, Turn(5, 6))
        self.says(desk, "wind", "b")

    def test_nothing_near_enough(self):
        self.refuses(NoWind, "short 1/17 0", "thing", Turn(1, 17))
        self.refuses(NoWind, "short 1/17 1/1000", "thing", Turn(1, 17))

    def test_texts(self):
        for text, row in (("", 0), ("x", 0), ("n, x", 1), (" n", 0), ("n ", 0), ("n,  e", 1), ("n e", 0), ("n, e, -", 2),
                          ("n\ne", 0), ("n..x", 0), ("n, n..e, ", 2)):
            self.refuses(NoText, "keep a " + text, "row", row)
            self.refuses(NoText, "keep c " + text, "row", row)
        desk = kept_desk()
        refused(self, NoText, lambda: desk.say("keep c x"))
        refused(self, NoSuch, lambda: desk.say("show c"))

    def test_steps(self):
        for name in ("", "x", "N", "n>>>", "n>e", "foehn<", "n\n"):
            self.refuses(NoWalk, f"go {name} 1", "number", 3)
            self.refuses(NoWalk, f"go {name} 0", "number", 3)
        desk = Desk(ROSE)
        self.assertEqual(refused(self, NoWalk, lambda: desk.say("go x 1")).number, 0)
        self.says(desk, "walk", "-")


if __name__ == "__main__":
    unittest.main()
