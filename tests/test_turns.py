import unittest
from fractions import Fraction

from rosenames.errors import NoText, NoTurn
from rosenames.turns import Turn, read_turn
from things import NUMBERS, TEXTS, THINGS, Alike, deep

GREAT = 123456789012345678901234567890
TOPS = tuple(range(-13, 14)) + (GREAT, -GREAT, GREAT * 35, 10 ** 99, 1 - 10 ** 99)
BOTTOMS = (1, 2, 3, 4, 6, 7, 12, 360, GREAT, GREAT * 12, 10 ** 99)

PARTS = sorted({Fraction(top, bottom) for bottom in range(1, 13) for top in range(bottom)})
GREAT_PARTS = [Fraction(1, GREAT), Fraction(GREAT - 1, GREAT), Fraction(GREAT, 10 ** 99)]


def turn_of(part):
    return Turn(part.numerator, part.denominator)


def part_of(turn):
    return Fraction(turn.top, turn.bottom)


class MakingTest(unittest.TestCase):
    def check(self, turn, top, bottom):
        wanted = Fraction(top, bottom) % 1
        self.assertEqual((turn.top, turn.bottom), (wanted.numerator, wanted.denominator), (top, bottom))
        self.assertIs(type(turn.top), int)
        self.assertIs(type(turn.bottom), int)

    def test_lowest_terms_of_either_sign(self):
        for bottom in BOTTOMS:
            for top in TOPS:
                self.check(Turn(top, bottom), top, bottom)
                self.check(Turn(top, -bottom), top, -bottom)

    def test_examples(self):
        self.assertEqual((Turn(6, 4).top, Turn(6, 4).bottom), (1, 2))
        self.assertEqual((Turn(-1, 4).top, Turn(-1, 4).bottom), (3, 4))
        self.assertEqual((Turn(1, -4).top, Turn(1, -4).bottom), (3, 4))
        self.assertEqual((Turn(-1, -4).top, Turn(-1, -4).bottom), (1, 4))
        self.assertEqual((Turn(0, -9).top, Turn(0, -9).bottom), (0, 1))

    def test_by_keyword_and_without_a_bottom(self):
        self.check(Turn(3, bottom=-4), 3, -4)
        self.check(Turn(top=3, bottom=4), 3, 4)
        self.check(Turn(bottom=6, top=-2), -2, 6)
        for top in TOPS:
            self.check(Turn(top), 0, 1)
            self.check(Turn(top=top), 0, 1)

    def test_refused_top(self):
        for thing in THINGS + TEXTS:
            self.refused(thing, lambda: Turn(thing))
            self.refused(thing, lambda: Turn(thing, 4))
            self.refused(thing, lambda: Turn(top=thing, bottom=-4))

    def test_refused_bottom(self):
        for thing in THINGS + TEXTS + (0,):
            self.refused(thing, lambda: Turn(3, thing))
            self.refused(thing, lambda: Turn(0, bottom=thing))

    def test_first_of_both_is_refused(self):
        for thing in THINGS:
            for other in ("4", [], None, True, 0):
                self.refused(thing, lambda: Turn(thing, other))
                self.refused(thing, lambda: Turn(bottom=other, top=thing))

    def refused(self, thing, deed):
        with self.assertRaises(NoTurn) as caught:
            deed()
        self.assertIs(type(caught.exception), NoTurn)
        self.assertIs(caught.exception.thing, thing)


class ReckoningTest(unittest.TestCase):
    def test_plus_and_minus(self):
        for one in PARTS + GREAT_PARTS:
            for other in PARTS + GREAT_PARTS:
                more = turn_of(one).plus(turn_of(other))
                less = turn_of(one).minus(turn_of(other))
                self.assertIsInstance(more, Turn)
                self.assertEqual(part_of(more), (one + other) % 1)
                self.assertEqual(part_of(less), (one - other) % 1)
                self.assertEqual(more.minus(turn_of(other)), turn_of(one))
                self.assertEqual(less.plus(turn_of(other)), turn_of(one))

    def test_times(self):
        for part in PARTS + GREAT_PARTS:
            for many in (0, 1, 2, 3, 12, -1, -2, -7, GREAT, -GREAT, 10 ** 99, 1 - 10 ** 99):
                turn = turn_of(part).times(many)
                self.assertIsInstance(turn, Turn)
                self.assertEqual(part_of(turn), part * many % 1)

    def test_opposite(self):
        for part in PARTS + GREAT_PARTS:
            turn = turn_of(part).opposite()
            self.assertIsInstance(turn, Turn)
            self.assertEqual(part_of(turn), (part + Fraction(1, 2)) % 1)
            self.assertEqual(turn.opposite(), turn_of(part))

    def test_below(self):
        for one in PARTS + GREAT_PARTS:
            for other in PARTS + GREAT_PARTS:
                self.assertIs(turn_of(one).below(turn_of(other)), one < other)

    def test_apart(self):
        for one in PARTS + GREAT_PARTS:
            for other in PARTS + GREAT_PARTS:
                way = turn_of(one).apart(turn_of(other))
                self.assertIsInstance(way, Turn)
                self.assertEqual(part_of(way), min((one - other) % 1, (other - one) % 1))
                self.assertLessEqual(part_of(way), Fraction(1, 2))
                self.assertEqual(way, turn_of(other).apart(turn_of(one)))

    def test_refused_others(self):
        turn = Turn(1, 3)
        for thing in THINGS + TEXTS + NUMBERS:
            for deed in (turn.plus, turn.minus, turn.below, turn.apart, Turn(0).apart):
                with self.assertRaises(NoTurn) as caught:
                    deed(thing)
                self.assertIs(caught.exception.thing, thing)
        self.assertEqual((turn.top, turn.bottom), (1, 3))

    def test_refused_many(self):
        turn = Turn(1, 3)
        for thing in THINGS + TEXTS + (turn, Turn(0)):
            with self.assertRaises(NoTurn) as caught:
                turn.times(thing)
            self.assertIs(caught.exception.thing, thing)
        self.assertEqual((turn.top, turn.bottom), (1, 3))

    def test_nothing_asked_changes_a_turn(self):
        turn, other = Turn(5, 12), Turn(3, 4)
        for _ in range(3):
            turn.plus(other)
            turn.minus(other)
            turn.times(-7)
            turn.opposite()
            turn.below(other)
            turn.apart(other)
            turn.plus(turn)
            str(turn)
            repr(turn)
            self.assertFalse(turn == other)
        self.assertEqual((turn.top, turn.bottom), (5, 12))
        self.assertEqual((other.top, other.bottom), (3, 4))
        self.assertEqual(sorted(vars(turn)), ["bottom", "top"])


class AlikeTest(unittest.TestCase):
    def test_turns_made_otherwise_are_alike(self):
        for part in PARTS + GREAT_PARTS:
            turn = turn_of(part)
            for by in (1, 2, -1, -3, GREAT):
                for whole in (0, 1, -2, GREAT):
                    again = Turn((part.numerator + whole * part.denominator) * by, part.denominator * by)
                    self.assertIs(turn == again, True)
                    self.assertIs(turn != again, False)
                    self.assertIn(again, [None, turn])

    def test_other_turns_are_not(self):
        for one in PARTS + GREAT_PARTS:
            for other in PARTS + GREAT_PARTS:
                self.assertIs(turn_of(one) == turn_of(other), one == other)
                self.assertIs(turn_of(one) != turn_of(other), one != other)
        self.assertNotIn(Turn(1, 2), [Turn(1, 3), Turn(1, 4), Turn(0)])

    def test_a_turn_and_another_thing_never_are(self):
        for turn in (Turn(1, 2), Turn(0), Turn(0, 1)):
            own = ((turn.top, turn.bottom), [turn.top, turn.bottom], str(turn), repr(turn))
            own += ([turn], (turn,), Turn, part_of(turn))
            for thing in THINGS + TEXTS + NUMBERS + own:
                self.assertIs(turn == thing, False)
                self.assertIs(turn != thing, True)
                if not isinstance(thing, Alike):
                    self.assertIs(thing == turn, False)
                    self.assertIs(thing != turn, True)
                    self.assertNotIn(turn, [thing])
                    self.assertNotIn(thing, [turn])


class TextTest(unittest.TestCase):
    def test_str_and_repr(self):
        self.assertEqual(str(Turn(0)), "0")
        self.assertEqual(repr(Turn(0)), "Turn(0, 1)")
        self.assertEqual(str(Turn(14, -8)), "1/4")
        self.assertEqual(repr(Turn(14, -8)), "Turn(1, 4)")
        for part in PARTS[1:] + GREAT_PARTS:
            top, bottom = part.numerator, part.denominator
            self.assertEqual(str(turn_of(part)), f"{top}/{bottom}")
            self.assertEqual(repr(turn_of(part)), f"Turn({top}, {bottom})")

    def test_noughts_within_great_numbers_are_shown(self):
        for top in (10 ** 18 - 1, 10 ** 18, 10 ** 18 + 1, 10 ** 36 + 7, 5 * 10 ** 54):
            bottom = top * 10 ** 18 + 1
            self.assertEqual(str(Turn(top, bottom)), f"{top}/{bottom}")
            self.assertEqual(repr(Turn(top, bottom)), f"Turn({top}, {bottom})")
            self.assertEqual(read_turn(f"{top}/{bottom}"), Turn(top, bottom))

    def test_what_str_writes_is_read(self):
        for part in PARTS + GREAT_PARTS:
            turn = read_turn(str(turn_of(part)))
            self.assertIsInstance(turn, Turn)
            self.assertEqual(part_of(turn), part)
        self.assertEqual(read_turn(text="3/8"), Turn(3, 8))

    def test_told_turns_of_thousands_of_figures(self):
        turn = Turn(0)
        for more in range(60):
            turn = turn.plus(Turn(1, 10 ** 98 + more * 2 + 1))
        self.assertGreater(turn.bottom, 10 ** 4400)
        text = str(turn)
        self.assertEqual(repr(turn), "Turn(" + text.replace("/", ", ") + ")")
        self.assertEqual(text[-18:], f"{turn.bottom % 10 ** 18:018d}")
        self.assertEqual(read_turn(text), turn)


class RefusedTextTest(unittest.TestCase):
    def refused(self, text):
        with self.assertRaises(NoText) as caught:
            read_turn(text)
        self.assertIs(type(caught.exception), NoText, text)
        self.assertEqual(caught.exception.row, 0, text)

    def test_signs_ahead(self):
        for text in ("+1/2", "-1/2", "1/+2", "1/-2", "-1/-2", "+0", "-0", "+", "-"):
            self.refused(text)

    def test_noughts_ahead(self):
        for text in ("00", "01/2", "1/02", "01/02", "001/2", "0/2", "0/1", "0/01", "00/1"):
            self.refused(text)

    def test_no_lowest_terms(self):
        for text in ("2/4", "3/6", "6/9", "10/100", f"{GREAT}/{GREAT * 3}"):
            self.refused(text)

    def test_a_whole_turn_and_more(self):
        for text in ("1", "2", "1/1", "2/1", "7/7", "3/2", "5/4", f"{GREAT + 1}/{GREAT}"):
            self.refused(text)

    def test_nothing_below(self):
        for text in ("1/0", "0/0", "00/00", "1/", "/2", "/", "1//2", "1/2/", "/1/2", "1/2/3"):
            self.refused(text)

    def test_blanks_and_line_ends(self):
        for good in ("0", "1/2"):
            for sign in (" ", "\n", "  ", "\t", "\r"):
                self.refused(sign + good)
                self.refused(good + sign)
        for text in ("1 /2", "1/ 2", "1 / 2", "1\n/2", "1/\n2", "1 1/12", "1/1 2"):
            self.refused(text)

    def test_other_strokes_and_signs(self):
        for text in ("1\\2", "1|2", "1:2", "1-2", "1.5", "0.5", "1,2", "1_0/21", "1/2_1", "a/b", "0x1/2", "1e0/2"):
            self.refused(text)
        for text in ("Turn(1, 2)", "Turn(0, 1)", "half", "1/2?", "?", "~", "1\u00b2/200", "\u0661/2"):
            self.refused(text)

    def test_the_text_without_signs(self):
        self.refused("")

    def test_no_texts(self):
        for thing in THINGS + NUMBERS + (Turn(1, 2), Turn(0), deep(10), ["1/2"], ("0",)):
            self.refused(thing)


if __name__ == "__main__":
    unittest.main()
