"""Things of many kinds, to be handed in where they don't belong."""


class Alike:
    """Says of itself that it is alike with everything."""

    def __eq__(self, other):
        return True


def deep(many):
    """A list in a list, so many deep."""
    row = []
    for _ in range(many):
        row = [row]
    return row


def some_deed(wind):
    return wind


# None of these is a whole number, a text or a value of the package.
THINGS = (
    None,
    True,
    False,
    b"",
    b"1/2",
    b"n",
    (),
    (1, 2),
    (0, 1),
    ("n", ""),
    [],
    [1],
    ["n"],
    {},
    {"top": 1, "bottom": 2},
    set(),
    {1},
    range(3),
    deep(9),
    ((1, (2, (3,))), [None]),
    some_deed,
    len,
    int,
    object(),
    Alike(),
    ValueError("1"),
)

TEXTS = ("", "0", "1", "1/2", "n", "n>", ">", "Turn(1, 2)", "\n", " ")

NUMBERS = (0, 1, -1, 2, 7, 10 ** 99)
