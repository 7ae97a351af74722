"""Names: a word and its marks, and the step that marks make."""

from rosenames.errors import NoName, NoStep
from rosenames.whole import is_whole

LETTERS = "abcdefghijklmnopqrstuvwxyz"
MOST_LETTERS = 6
ON = ">"
BACK = "<"
MOST_MARKS = 5


def is_word(thing):
    """Whether a thing is a word: a text of one to six small letters."""
    if not isinstance(thing, str) or thing == "":
        return False
    return end_of_run(thing, 0, LETTERS, MOST_LETTERS) == len(thing)


def parted(text):
    """(WORD, MARKS) of a name."""
    return parted_within(text, MOST_MARKS)


def parted_within(text, most):
    """(WORD, MARKS) of a name of at most so many marks."""
    if not isinstance(text, str):
        raise NoName(0)
    behind_word = end_of_run(text, 0, LETTERS, MOST_LETTERS)
    if behind_word == 0:
        raise NoName(0)
    behind_marks = end_of_run(text, behind_word, ON + BACK, most)
    if behind_marks < len(text):
        raise NoName(behind_marks)
    return text[:behind_word], text[behind_word:]


def end_of_run(text, begin, signs, most):
    """Where such signs, at most so many, end that stand in a text from a place on."""
    end = begin
    while end < len(text) and end < begin + most and text[end] in signs:
        end += 1
    return end


def step_of(marks):
    """(TOP, BOTTOM) of the step that none to five marks make."""
    top, bottom = 0, 1
    for mark in marks:
        # Behind the first mark the top is odd, so the terms are the lowest.
        top = 2 * top + (1 if mark == ON else -1)
        bottom = 2 * bottom
    return top, bottom


def marks_by(top, many):
    """The only row of so many marks whose step is TOP parts of 2^MANY."""
    if not makes_marks(top, many):
        raise NoStep((top, many))
    marks = []
    left = top
    part = 1 << many
    while part > 1:
        part //= 2
        # All marks behind this one move by less than it, so what is left has
        # its sign.
        if left > 0:
            marks.append(ON)
            left -= part
        else:
            marks.append(BACK)
            left += part
    return "".join(marks)


def makes_marks(top, many):
    """Whether some row of MANY marks makes the step of TOP parts of 2^MANY."""
    if not is_whole(top) or not is_whole(many):
        return False
    if many < 0 or many > MOST_MARKS:
        return False
    if many == 0:
        return top == 0
    return top % 2 == 1 and abs(top) < (1 << many)
