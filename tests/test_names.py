import itertools
import unittest
from fractions import Fraction

from rosenames.errors import NoName, NoStep
from rosenames.names import marks_by, parted, step_of
from rosenames.turns import Turn
from things import NUMBERS, TEXTS, THINGS

ROWS = ["".join(row) for many in range(6) for row in itertools.product("<>", repeat=many)]
WORDS = ("n", "a", "z", "no", "sud", "west", "north", "zephyr", "zzzzzz", "abcdef")


class PartedTest(unittest.TestCase):
    def test_names(self):
        self.assertEqual(len(ROWS), 63)
        for word in WORDS:
            for marks in ROWS:
                told = parted(word + marks)
                self.assertIs(type(told), tuple)
                self.assertEqual(told, (word, marks))
        self.assertEqual(parted(text="north><"), ("north", "><"))

    def test_each_letter_can_stand_in_a_word(self):
        for letter in "abcdefghijklmnopqrstuvwxyz":
            self.assertEqual(parted(letter + ">"), (letter, ">"))


class RefusedNameTest(unittest.TestCase):
    def refused(self, thing, at):
        with self.assertRaises(NoName) as caught:
            parted(thing)
        self.assertIs(type(caught.exception), NoName, thing)
        self.assertEqual(caught.exception.at, at, thing)

    def test_seven_letters(self):
        self.refused("zephyrs", 6)
        self.refused("zephyrs>", 6)
        self.refused("a" * 20000, 6)

    def test_six_marks(self):
        for word in WORDS:
            self.refused(word + "><><><", len(word) + 5)
            self.refused(word + ">>>>>>>n", len(word) + 5)
            self.refused(word + "<<<<<n", len(word) + 5)
            self.refused(word + "<<<<< ", len(word) + 5)

    def test_a_letter_behind_a_mark(self):
        self.refused("n>n", 2)
        self.refused("no<>e", 4)
        self.refused("n>n>n", 2)

    def test_a_mark_first(self):
        for text in (">", "<", ">n", "<n>", "><", ">>>>>>"):
            self.refused(text, 0)

    def test_great_letters(self):
        self.refused("N", 0)
        self.refused("North", 0)
        self.refused("nOrth", 1)
        self.refused("nortH>", 4)
        self.refused("n>N", 2)

    def test_blanks_and_line_ends(self):
        for sign in (" ", "\n", "\t", "\r"):
            self.refused(sign, 0)
            self.refused(sign + "n", 0)
            self.refused("n" + sign, 1)
            self.refused("n" + sign + ">", 1)
            self.refused("n>" + sign, 2)
            self.refused("zephyr" + sign, 6)

    def test_all_other_signs(self):
        for code in range(32, 127):
            sign = chr(code)
            if not sign.islower():
                self.refused(sign + "n", 0)
                if sign not in "<>":
                    self.refused("n" + sign, 1)
            if sign not in "<>":
                self.refused("n>" + sign, 2)
        for text in ("\u00e4", "\u00df", "\u0430"):
            self.refused(text, 0)

    def test_the_text_without_signs(self):
        self.refused("", 0)

    def test_no_texts(self):
        for thing in THINGS + NUMBERS + (Turn(1, 2), list("n>"), ("n", ">")):
            self.refused(thing, 0)


class StepTest(unittest.TestCase):
    def test_all_rows_of_marks(self):
        told = {}
        for marks in ROWS:
            step = Fraction(0)
            for at, mark in enumerate(marks):
                step += Fraction(1 if mark == ">" else -1, 2 ** (at + 1))
            self.assertEqual(step_of(marks), (step.numerator, step.denominator), marks)
            self.assertIs(type(step_of(marks)), tuple)
            told[step_of(marks)] = marks
        self.assertEqual(len(told), 63)

    def test_examples(self):
        self.assertEqual(step_of(""), (0, 1))
        self.assertEqual(step_of(">"), (1, 2))
        self.assertEqual(step_of("<"), (-1, 2))
        self.assertEqual(step_of("><"), (1, 4))
        self.assertEqual(step_of("<>"), (-1, 4))
        self.assertEqual(step_of(">>>>>"), (31, 32))
        self.assertEqual(step_of(marks="<<<<<"), (-31, 32))

    def test_marks_come_back(self):
        for marks in ROWS:
            self.assertEqual(marks_by(step_of(marks)[0], len(marks)), marks)
        self.assertEqual(marks_by(top=-3, many=3), "<><")
        self.assertEqual(marks_by(many=0, top=0), "")


class RefusedStepTest(unittest.TestCase):
    def refused(self, top, many):
        with self.assertRaises(NoStep) as caught:
            marks_by(top, many)
        self.assertIs(type(caught.exception), NoStep)
        thing = caught.exception.thing
        self.assertIs(type(thing), tuple)
        self.assertEqual(len(thing), 2)
        self.assertIs(thing[0], top)
        self.assertIs(thing[1], many)

    def test_every_other_top(self):
        for many in range(6):
            good = {step_of(marks)[0] for marks in ROWS if len(marks) == many}
            self.assertEqual(len(good), 2 ** many)
            for top in range(-130, 131):
                if top in good:
                    self.assertEqual(len(marks_by(top, many)), many)
                else:
                    self.refused(top, many)

    def test_great_tops(self):
        for many in range(6):
            for top in (10 ** 99, 10 ** 99 - 1, -10 ** 99, 1 - 10 ** 99):
                self.refused(top, many)

    def test_other_numbers_of_marks(self):
        for many in (-1, -2, -5, 6, 7, 64, 10 ** 99, -10 ** 99):
            for top in range(-65, 66):
                self.refused(top, many)

    def test_truths(self):
        for many in range(6):
            self.refused(True, many)
            self.refused(False, many)
        for truth in (True, False):
            for top in (-1, 0, 1):
                self.refused(top, truth)
            self.refused(truth, truth)

    def test_things_of_other_kinds(self):
        for thing in THINGS + TEXTS + (Turn(1, 2), Turn(0)):
            for number in (-1, 0, 1, 3):
                self.refused(thing, number)
                self.refused(number, thing)
            self.refused(thing, thing)


if __name__ == "__main__":
    unittest.main()
