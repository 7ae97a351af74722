import itertools
import unittest

from refusals import alike, never_alike, refused
from rosenames.errors import NoName, NoRose, NoText, NoWord
from rosenames.roses import Rose, read_rose
from rosenames.turns import Turn
from rosenames.winds import Wind
from samples import BEGINS, GREAT, WORDS, all_names, part_of, part_told, roses
from things import NUMBERS, TEXTS, THINGS, Alike, deep

FOUR = ("n", "e", "s", "w")
BAD_WORDS = (
    ["n", "e", "s"],
    ("n", "e"),
    ("n",),
    (),
    ("a", "b", "c", "d", "e", "f", "g", "h", "i"),
    ("n", "e", "n"),
    ("n", "e", "s", "e"),
    ("n", "e", "zephyrs"),
    ("n", "e", "S"),
    ("North", "e", "s"),
    ("n", "", "s"),
    ("n", "e", "s>"),
    ("<n", "e", "s"),
    ("n", "e", "s "),
    ("n", "e", "s\n"),
    ("n", "e", "s1"),
    ("n", "e", 3),
    ("n", None, "s"),
    ("n", "e", b"s"),
    ("n", "e", ("s",)),
    ("n", "e", ["s"]),
    ("n", "e", Alike()),
    (1, 2, 3),
    (None, None, None),
    "nes",
    "n e s",
    {"n": 1, "e": 2, "s": 3},
    range(3),
    iter(FOUR),
)
BAD_HALVINGS = (-1, 6, 7, 64, -GREAT, GREAT, 10 ** 99, "2", "", "two", Turn(0), Turn(1, 2))
BAD_BEGINS = NUMBERS + TEXTS + tuple(thing for thing in THINGS if thing is not None) + ((0, 1), (Turn(0),), Turn)


class MakingTest(unittest.TestCase):
    def test_values(self):
        for words, halvings, begin in itertools.product(WORDS, range(6), BEGINS):
            rose = Rose(words, halvings, begin)
            self.assertEqual(rose.words, words)
            self.assertIs(type(rose.words), tuple)
            self.assertEqual(rose.halvings, halvings)
            self.assertIsInstance(rose.begin, Turn)
            self.assertEqual(rose.begin, Turn(0) if begin is None else begin)

    def test_every_number_of_corners(self):
        words = ("a", "b", "c", "d", "e", "f", "g", "h")
        for many in range(3, 9):
            self.assertEqual(len(Rose(words[:many], 0)), many)

    def test_by_place_by_keyword_and_left_out(self):
        begin = Turn(1, 7)
        whole = Rose(FOUR, 3, begin)
        self.assertEqual(Rose(FOUR, 3, begin=begin), whole)
        self.assertEqual(Rose(FOUR, halvings=3, begin=begin), whole)
        self.assertEqual(Rose(begin=begin, halvings=3, words=FOUR), whole)
        self.assertEqual(Rose(FOUR), Rose(FOUR, 2, Turn(0)))
        self.assertEqual(Rose(words=FOUR), Rose(FOUR, 2, None))
        self.assertEqual(Rose(FOUR, begin=begin), Rose(FOUR, 2, begin))
        self.assertEqual(Rose(FOUR, 5), Rose(FOUR, 5, Turn(0)))
        self.assertEqual(Rose(FOUR, halvings=0).halvings, 0)
        self.assertEqual(Rose(FOUR, begin=None).begin, Turn(0))

    def test_len_and_truth(self):
        for rose in roses():
            self.assertEqual(len(rose), len(rose.words) * 2 ** rose.halvings)
            self.assertIs(bool(rose), True)
        self.assertEqual(len(Rose(("a", "b", "c"), 0)), 3)
        self.assertEqual(len(Rose(WORDS[-1], 5)), 256)

    def test_repr(self):
        self.assertEqual(repr(Rose(("n", "e", "s"))), "Rose(('n', 'e', 's'), halvings=2, begin=Turn(0, 1))")
        for rose in roses():
            wanted = f"Rose({rose.words!r}, halvings={rose.halvings!r}, begin={rose.begin!r})"
            self.assertEqual(repr(rose), wanted)


class RefusedRoseTest(unittest.TestCase):
    def refused(self, part, *given):
        self.assertEqual(refused(self, NoRose, lambda: Rose(*given)).part, part)
        named = dict(zip(("words", "halvings", "begin"), given))
        self.assertEqual(refused(self, NoRose, lambda: Rose(**named)).part, part)

    def test_words(self):
        for words in BAD_WORDS + THINGS + TEXTS + NUMBERS + (Rose(FOUR), Turn(0), deep(10)):
            self.refused("words", words)
            self.refused("words", words, 3, Turn(1, 2))

    def test_halvings(self):
        for halvings in BAD_HALVINGS + THINGS + TEXTS + (Rose(FOUR), deep(10)):
            self.refused("halvings", FOUR, halvings)
            self.refused("halvings", FOUR, halvings, Turn(1, 2))

    def test_begin(self):
        for begin in BAD_BEGINS + (Rose(FOUR), deep(10)):
            self.refused("begin", FOUR, 2, begin)
            self.assertEqual(refused(self, NoRose, lambda: Rose(FOUR, begin=begin)).part, "begin")

    def test_the_first_of_several(self):
        for words in BAD_WORDS:
            for halvings in (-1, 6, True, None, "2"):
                self.refused("words", words, halvings)
                self.refused("words", words, halvings, 0)
            self.refused("words", words, 2, 0)
        for halvings in BAD_HALVINGS + THINGS:
            for begin in (0, False, "0", (0, 1)):
                self.refused("halvings", FOUR, halvings, begin)

    def test_truths_are_no_numbers(self):
        self.refused("halvings", FOUR, True)
        self.refused("halvings", FOUR, False)

    def test_what_was_handed_in_stays(self):
        words = ["n", "e", "s"]
        self.refused("words", words)
        self.assertEqual(words, ["n", "e", "s"])


class AlikeTest(unittest.TestCase):
    def test_roses_made_otherwise(self):
        for rose in roses():
            alike(self, rose, Rose(tuple(list(rose.words)), rose.halvings, rose.begin.plus(Turn(0))), True)
        alike(self, Rose(FOUR), Rose(FOUR, 2, Turn(8, 4)), True)

    def test_one_thing_differs(self):
        rose = Rose(FOUR, 2, Turn(1, 4))
        for words in (("n", "e", "s"), ("n", "e", "w", "s"), ("e", "s", "w", "n"), ("n", "e", "s", "x"),
                      ("n", "e", "s", "ww"), ("n", "e", "s", "w", "x")):
            alike(self, rose, Rose(words, 2, Turn(1, 4)), False)
        for halvings in (0, 1, 3, 4, 5):
            alike(self, rose, Rose(FOUR, halvings, Turn(1, 4)), False)
        for begin in (None, Turn(1, 2), Turn(3, 4), Turn(1, 5), Turn(GREAT, GREAT * 4 + 1)):
            alike(self, rose, Rose(FOUR, 2, begin), False)

    def test_a_rose_and_another_thing(self):
        for rose in (Rose(FOUR), Rose(FOUR, 0, Turn(1, 2))):
            own = (rose.words, list(rose.words), rose.begin, rose.halvings, str(rose), repr(rose), len(rose), Rose)
            own += ((rose,), [rose], (rose.words, rose.halvings, rose.begin), Wind(rose, rose.begin))
            never_alike(self, rose, THINGS + TEXTS + NUMBERS + own)


class TextTest(unittest.TestCase):
    def test_str(self):
        self.assertEqual(str(Rose(FOUR)), "rose 2 0\nn\ne\ns\nw")
        self.assertEqual(str(Rose(("no", "na", "zephyr"), 0, Turn(6, 8))), "rose 0 3/4\nno\nna\nzephyr")
        for rose in roses():
            rows = [f"rose {rose.halvings} {rose.begin}"] + list(rose.words)
            self.assertEqual(str(rose), "\n".join(rows))

    def test_what_str_writes_is_read(self):
        for rose in roses():
            again = read_rose(str(rose))
            self.assertIsInstance(again, Rose)
            self.assertIs(type(again.words), tuple)
            self.assertIs(type(again.halvings), int)
            alike(self, again, rose, True)
        self.assertEqual(read_rose(text=str(Rose(FOUR, 5))), Rose(FOUR, 5))

    def test_a_told_begin_of_thousands_of_figures(self):
        turn = Turn(0)
        for more in range(60):
            turn = turn.plus(Turn(1, 10 ** 98 + more * 2 + 1))
        rose = Rose(FOUR, 5, turn)
        self.assertEqual(read_rose(str(rose)), rose)
        self.assertIn(repr(turn), repr(rose))
        self.assertEqual(rose.told("n"), turn)


class RefusedTextTest(unittest.TestCase):
    def refused(self, row, text):
        self.assertEqual(refused(self, NoText, lambda: read_rose(text)).row, row, text)

    def test_first_row(self):
        for row in ("", "rose", "Rose 2 0", "roses 2 0", "ros 2 0", "2 0", "rose 2", "rose 0", "rose 2 0 0",
                    "rose 2 0 n", " rose 2 0", "rose 2 0 ", "rose  2 0", "rose 2  0", "rose\t2 0", "rose2 0", "n"):
            self.refused(0, row + "\nn\ne\ns")
            self.refused(0, row)

    def test_halvings(self):
        for halvings in ("6", "7", "9", "10", "12", "02", "00", "-1", "-0", "+2", "", "two", "2.0", "2_", "01234",
                         "012345", "1/2", "True", "None", "x", "n"):
            self.refused(0, f"rose {halvings} 0\nn\ne\ns")
            self.refused(0, f"rose {halvings} 1/2\nn\nn\nN")

    def test_begin(self):
        for begin in ("2/4", "0/1", "0/2", "1/1", "3/2", "1", "2", "01/2", "1/02", "00", "-1/2", "+1/2", "-0", "+0",
                      "1/0", "1/", "/2", "1/2/3", "0.5", "None", "Turn(0, 1)", "n", f"{GREAT}/{GREAT * 2}"):
            self.refused(0, f"rose 2 {begin}\nn\ne\ns")

    def test_a_row_that_is_no_word(self):
        for row in ("", " ", "N", "n ", " n", "n e", "zephyrs", "n>", ">", "n1", "n.", "-", "rose 2 0", "?", "0"):
            self.refused(1, f"rose 2 0\n{row}\ne\ns\nw")
            self.refused(2, f"rose 2 0\ne\n{row}\ns\nw")
            self.refused(3, f"rose 2 0\ne\ns\n{row}")
            self.refused(8, f"rose 2 0\na\nb\nc\nd\ne\nf\ng\n{row}")
            self.refused(1, f"rose 2 0\n{row}\n{row}\n{row}")

    def test_a_word_again(self):
        self.refused(2, "rose 2 0\nn\nn\ns")
        self.refused(3, "rose 2 0\nn\ne\nn\ns")
        self.refused(3, "rose 2 0\nn\ne\ne")
        self.refused(8, "rose 2 0\na\nb\nc\nd\ne\nf\ng\na")
        self.refused(2, "rose 2 0\nn\nn")

    def test_the_tenth_row(self):
        nine = "rose 2 0\na\nb\nc\nd\ne\nf\ng\nh"
        self.assertEqual(len(read_rose(nine).words), 8)
        for row in ("i", "a", "", "N", "i\nj", "i\nN\n"):
            self.refused(9, nine + "\n" + row)
        self.refused(4, "rose 2 0\na\nb\nc\n1\ne\nf\ng\nh\ni\nj")

    def test_too_few_rows(self):
        self.refused(1, "rose 2 0")
        self.refused(2, "rose 2 0\nn")
        self.refused(3, "rose 5 1/3\nn\ne")
        self.assertEqual(read_rose("rose 5 1/3\nn\ne\ns"), Rose(("n", "e", "s"), 5, Turn(1, 3)))

    def test_line_ends_at_an_end(self):
        self.refused(4, "rose 2 0\nn\ne\ns\n")
        self.refused(0, "\nrose 2 0\nn\ne\ns")
        self.refused(1, "rose 2 0\n")
        self.refused(1, "rose 2 0\n\nn\ne\ns")
        self.refused(3, "rose 2 0\nn\ne\n")
        self.refused(0, "\n")
        self.refused(0, "")

    def test_the_first_row_that_is_amiss(self):
        self.refused(0, "rose 6 0\nN\nN")
        self.refused(1, "rose 2 0\nN\nN")
        self.refused(2, "rose 2 0\nn\nn\nN")

    def test_no_texts(self):
        rose = Rose(FOUR)
        for thing in THINGS + NUMBERS + (rose, Turn(0), deep(10), [str(rose)], (str(rose),), str(rose).encode()):
            self.refused(0, thing)


class ToldTest(unittest.TestCase):
    def test_all_names(self):
        for rose in roses():
            for name in all_names(rose):
                turn = rose.told(name)
                self.assertIsInstance(turn, Turn)
                self.assertEqual(part_of(turn), part_told(rose, name), name)

    def test_examples(self):
        rose = Rose(FOUR, 3, Turn(1, 16))
        self.assertEqual(rose.told("n"), Turn(1, 16))
        self.assertEqual(rose.told("e"), Turn(5, 16))
        self.assertEqual(rose.told("n>"), Turn(3, 16))
        self.assertEqual(rose.told("n<"), Turn(15, 16))
        self.assertEqual(rose.told("w>>>"), Turn(1, 32))
        self.assertEqual(rose.told(name="s<>"), Turn(1, 2))


class RefusedNameTest(unittest.TestCase):
    def no_name(self, rose, name, at):
        self.assertEqual(refused(self, NoName, lambda: rose.told(name)).at, at, name)

    def no_word(self, rose, name, word):
        self.assertEqual(refused(self, NoWord, lambda: rose.told(name)).word, word, name)

    def test_a_mark_too_many(self):
        for rose in roses():
            for word in rose.words + ("x", "foehn"):
                for more in ("<", ">", ">>", "<><", ">n", ">>>>>>", " "):
                    name = word + "<" * rose.halvings + more
                    self.no_name(rose, name, len(word) + rose.halvings)

    def test_no_names(self):
        for rose in (Rose(FOUR, 0), Rose(FOUR, 2), Rose(FOUR, 5)):
            for name, at in (("", 0), (">", 0), ("<n", 0), ("N", 0), (" n", 0), ("\n", 0), ("zephyrs", 6), ("nE", 1),
                             ("n ", 1), ("n\n", 1), ("n?", 1), ("n.", 1), ("*", 0), ("x ", 1), ("n1", 1)):
                self.no_name(rose, name, at)
        self.no_name(Rose(FOUR, 2), "n>e", 2)
        self.no_name(Rose(FOUR, 0), "n>e", 1)
        self.no_name(Rose(FOUR, 5), "n<><>>>", 6)

    def test_no_texts(self):
        for thing in THINGS + NUMBERS + (Turn(0), deep(10), ["n"], ("n",), b"n", Rose(FOUR)):
            self.no_name(Rose(FOUR), thing, 0)

    def test_other_words(self):
        rose = Rose(("no", "na", "n", "nor", "north"), 2)
        for word in ("no", "na", "n", "nor", "north"):
            self.assertEqual(part_of(rose.told(word)), part_told(rose, word))
        for word in ("x", "nort", "norths", "o", "nn", "nb", "on", "zephyr"):
            for marks in ("", ">", "<>"):
                self.no_word(rose, word + marks, word)

    def test_no_name_is_ahead_of_no_word(self):
        rose = Rose(FOUR, 1)
        self.no_name(rose, "x>>", 2)
        self.no_name(rose, "foehn<<", 6)
        self.no_word(rose, "x>", "x")

    def test_a_lookup_error_and_no_value_error(self):
        refusal = refused(self, NoWord, lambda: Rose(FOUR).told("x"))
        self.assertIsInstance(refusal, LookupError)
        self.assertNotIsInstance(refusal, ValueError)

    def test_behind_a_refusal_all_is_told_as_ahead(self):
        rose = Rose(FOUR, 3, Turn(1, 5))
        ahead = [rose.told(name) for name in all_names(rose)]
        for name in ("x", "n>>>>", "", None, []):
            with self.assertRaises((NoName, NoWord)):
                rose.told(name)
        self.assertEqual([rose.told(name) for name in all_names(rose)], ahead)
        self.assertEqual(rose, Rose(FOUR, 3, Turn(1, 5)))


if __name__ == "__main__":
    unittest.main()
