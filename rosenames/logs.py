"""Logs: walks written by rows, a step in each."""

from rosenames.errors import NoStep, NoText
from rosenames.walks import MOST_STEPS, Walk, is_name_of
from rosenames.whole import MOST_FIGURES, are_figures, figures_of, is_whole, number_of

LINE_END = "\n"
BLANK = " "
REMARK = "#"
WIDEST = 20


def read_log(rose, text):
    """The walk of the steps that a log tells."""
    if not isinstance(text, str):
        raise NoText(0)
    steps = []
    for number, row in enumerate(text.split(LINE_END)):
        words = [word for word in row.split(BLANK) if word != ""]
        if tells_step(words):
            if len(steps) == MOST_STEPS or not is_written_step(rose, words):
                raise NoText(number)
            steps.append((words[0], number_of(words[1]) if len(words) == 2 else 1))
    return Walk(rose, tuple(steps))


def tells_step(words):
    """Whether a row of these words must tell a step."""
    return len(words) > 0 and not words[0].startswith(REMARK)


def is_written_step(rose, words):
    """Whether these words of a row are NAME, or NAME and MANY."""
    if len(words) > 2 or not is_name_of(rose, words[0]):
        return False
    return len(words) == 1 or (are_figures(words[1]) and len(words[1]) <= MOST_FIGURES)


def show_log(walk, wide=0, noughts=0):
    """A row for each step, names with blanks behind to WIDE signs, numbers to NOUGHTS figures."""
    for width in (wide, noughts):
        if not is_whole(width) or width < 0 or width > WIDEST:
            raise NoStep(width)
    rows = [name.ljust(wide) + BLANK + figures_of(many).zfill(noughts) for name, many in walk.steps]
    return LINE_END.join(rows)
