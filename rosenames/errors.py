"""What is refused: a class for each kind of refusal, and the two bases above them."""


class RoseError(ValueError):
    """Above all refusals of what isn't as told."""


# No message shows the thing that was refused: it can be of any kind, and so
# large that Python would not write it. It is in the refusal's field.


class NoTurn(RoseError):
    """What is no turn, or makes none; `thing` is that."""

    def __init__(self, thing):
        RoseError.__init__(self, "no turn, or nothing that makes one")
        self.thing = thing


class NoName(RoseError):
    """What is no name; `at` is the number of the first sign that can't stand there."""

    def __init__(self, at):
        RoseError.__init__(self, "no name")
        self.at = at


class NoStep(RoseError):
    """What makes no step; `thing` is that."""

    def __init__(self, thing):
        RoseError.__init__(self, "nothing that makes a step")
        self.thing = thing


class NoRose(RoseError):
    """What makes no rose; `part` names what isn't as it must be."""

    def __init__(self, part):
        RoseError.__init__(self, "nothing that makes a rose")
        self.part = part


class NoText(RoseError):
    """What can't be read; `row` is the number of the first row that isn't so written."""

    def __init__(self, row):
        RoseError.__init__(self, "no text that can be read")
        self.row = row


class NoWind(RoseError):
    """Where no wind lies; `thing` is what was asked with."""

    def __init__(self, thing):
        RoseError.__init__(self, "no wind lies there")
        self.thing = thing


class NoPair(RoseError):
    """Two things of roses that aren't alike."""


class NoRoom(RoseError):
    """A wind that must and may not be there."""


class NoWalk(RoseError):
    """What makes no walk; `number` is that of the first step that is none, or None."""

    def __init__(self, number):
        RoseError.__init__(self, "nothing that makes a walk")
        self.number = number


class NoRow(RoseError):
    """A row that a desk can't answer."""


class LostError(LookupError):
    """Above all refusals of a word by which nothing is found."""


class NoWord(LostError):
    """A word that no corner has; `word` is that."""

    def __init__(self, word):
        LostError.__init__(self, "no corner has this word")
        self.word = word


class NoDeed(LostError):
    """A name that no deed has; `word` is that."""

    def __init__(self, word):
        LostError.__init__(self, "no deed has this name")
        self.word = word


class NoSuch(LostError):
    """A word by which nothing is kept; `word` is that."""

    def __init__(self, word):
        LostError.__init__(self, "nothing is kept by this word")
        self.word = word
