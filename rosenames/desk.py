"""The desk: rows of words, each answered with a text."""

from rosenames.checker import holds
from rosenames.deeds import do
from rosenames.errors import NoRow, NoSuch, NoText
from rosenames.names import is_word
from rosenames.near import nearest, shortest
from rosenames.papers import paper_home
from rosenames.spreadtexts import read_spread
from rosenames.tearing import torn
from rosenames.turns import read_turn
from rosenames.walks import Walk
from rosenames.whole import MOST_FIGURES, is_written, number_of
from rosenames.winds import wind_at, wind_of

BLANK = " "
OK = "ok"
NONE_TOLD = "-"

# By its first word which words a row can have behind it: a text is looked at
# by the functions alone, a word is there to keep a spread by, a kept one has
# its spread.
FORMS = {
    "face": (("text",),),
    "wind": ((),),
    "names": ((),),
    "turn": ((),),
    "do": (("text",), ("text", "number")),
    "near": (("turn",),),
    "short": (("turn", "turn"),),
    "torn": (("text",),),
    "keep": (("word", "text"),),
    "show": (("kept",),),
    "rest": (("kept",),),
    "join": (("kept", "kept"),),
    "meet": (("kept", "kept"),),
    "less": (("kept", "kept"),),
    "go": (("text", "number"),),
    "walk": ((),),
    "least": ((),),
    "home": ((),),
    "anew": ((),),
    "paper": ((),),
}


def words_of(row):
    """The words of a row, parted by one blank; of `keep` the last one is all the rest."""
    if not isinstance(row, str):
        raise NoRow("no text")
    words = row.split(BLANK)
    return row.split(BLANK, 2) if words[0] == "keep" else words


def form_of(words):
    """What the words behind the first one are."""
    for form in FORMS.get(words[0], ()):
        if len(form) == len(words) - 1:
            return form
    raise NoRow("no row of this first word and so many words")


def read_word(kind, word):
    """What a word of a row tells."""
    if kind == "turn":
        return turn_written(word)
    if kind == "number":
        return number_written(word)
    if kind in ("word", "kept") and not is_word(word):
        raise NoRow("no word")
    return word


def turn_written(word):
    """The turn that a word of a row tells."""
    try:
        return read_turn(word)
    except NoText:
        raise NoRow("no turn") from None


def number_written(word):
    """The number that a word of a row tells."""
    if len(word) > MOST_FIGURES or not (word == "0" or is_written(word)):
        raise NoRow("no number")
    return number_of(word)


def face_wind(desk, given):
    """It is on hand then."""
    desk.wind = wind_of(desk.rose, given[0])
    return OK


def tell_wind(desk, given):
    """The own name of the wind on hand."""
    return str(desk.wind)


def tell_names(desk, given):
    """All names of the wind on hand."""
    return " ".join(desk.wind.names())


def tell_turn(desk, given):
    """The turn of the wind on hand."""
    return str(desk.wind.turn)


def do_deed(desk, given):
    """The wind that comes is on hand then."""
    by = given[1] if len(given) == 2 else 1
    desk.wind = do(given[0], desk.wind, by)
    return str(desk.wind)


def tell_nearest(desk, given):
    """The wind nearest to a turn."""
    return str(nearest(desk.rose, given[0]))


def tell_shortest(desk, given):
    """The wind of the fewest marks no farther from a turn than another turn tells."""
    return str(shortest(desk.rose, given[0], given[1]))


def tell_torn(desk, given):
    """All names that a torn name can be."""
    names = torn(desk.rose, given[0])
    return " ".join(names) if len(names) > 0 else NONE_TOLD


def keep_spread(desk, given):
    """In the place of one kept by this word."""
    desk.kept[given[0]] = read_spread(desk.rose, given[1])
    return OK


def tell_spread(desk, given):
    """The spread itself."""
    return str(given[0])


def tell_rest(desk, given):
    """What the spread hasn't."""
    return str(given[0].rest())


def tell_joined(desk, given):
    """What one of both has."""
    return str(given[0].joined(given[1]))


def tell_met(desk, given):
    """What both have."""
    return str(given[0].met(given[1]))


def tell_without(desk, given):
    """What the first has and the second hasn't."""
    return str(given[0].without(given[1]))


def go_step(desk, given):
    """A step more."""
    desk.walk = desk.walk.then(given[0], given[1])
    return OK


def tell_walk(desk, given):
    """The walk itself."""
    return str(desk.walk)


def tell_least(desk, given):
    """The shortest walk to the same place."""
    return str(desk.walk.least())


def tell_home(desk, given):
    """Whether the walk comes where it began."""
    return "home" if desk.walk.home() else "away"


def begin_anew(desk, given):
    """A walk without steps."""
    desk.walk = Walk(desk.rose)
    return OK


def tell_paper(desk, given):
    """Whether the checker takes the house's paper of the walk's home."""
    claim, paper = paper_home(desk.walk)
    return "holds" if holds(claim, paper) else "no"


ANSWERS = {
    "face": face_wind,
    "wind": tell_wind,
    "names": tell_names,
    "turn": tell_turn,
    "do": do_deed,
    "near": tell_nearest,
    "short": tell_shortest,
    "torn": tell_torn,
    "keep": keep_spread,
    "show": tell_spread,
    "rest": tell_rest,
    "join": tell_joined,
    "meet": tell_met,
    "less": tell_without,
    "go": go_step,
    "walk": tell_walk,
    "least": tell_least,
    "home": tell_home,
    "anew": begin_anew,
    "paper": tell_paper,
}


class Desk:
    """A desk of a `rose`: its `wind` on hand, its `walk`, and spreads `kept` by words."""

    def __init__(self, rose):
        self.rose = rose
        self.wind = wind_at(rose, 0)
        self.walk = Walk(rose)
        self.kept = {}

    def say(self, row):
        """The answer to a row."""
        words = words_of(row)
        form = form_of(words)
        given = [read_word(kind, word) for kind, word in zip(form, words[1:])]
        # Not looked for in the same go: a word that isn't as it must be is
        # refused ahead of one by which nothing is kept.
        things = [self.spread_by(thing) if kind == "kept" else thing for kind, thing in zip(form, given)]
        answer = ANSWERS[words[0]]
        return answer(self, things)

    def spread_by(self, word):
        """The spread that is kept by a word."""
        if word not in self.kept:
            raise NoSuch(word)
        return self.kept[word]
