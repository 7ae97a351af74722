"""What a refusal must be: of its own class, of its base, and of no other."""

from rosenames import errors
from rosenames.errors import LostError, RoseError

CLASSES = [kind for kind in vars(errors).values()
           if isinstance(kind, type) and issubclass(kind, (RoseError, LostError))]


def refused(case, kind, deed):
    """The error by which a deed is refused, checked."""
    with case.assertRaises(kind) as caught:
        deed()
    refusal = caught.exception
    base = RoseError if issubclass(kind, RoseError) else LostError
    own = [other for other in CLASSES if isinstance(refusal, other)]
    case.assertEqual(sorted(own, key=str), sorted([kind, base], key=str))
    case.assertEqual(isinstance(refusal, ValueError), base is RoseError)
    case.assertEqual(isinstance(refusal, LookupError), base is LostError)
    return refusal


def never_alike(case, value, things):
    """Check that a value is alike with none of these things."""
    for thing in things:
        case.assertIs(value == thing, False)
        case.assertIs(value != thing, True)
        # What says of itself that it is alike with everything answers for itself.
        if not type(thing).__name__ == "Alike":
            case.assertIs(thing == value, False)
            case.assertIs(thing != value, True)
            case.assertNotIn(value, [thing])
            case.assertNotIn(thing, [value])


def alike(case, one, other, are):
    """Check that two values are alike, or that they aren't, by each way to ask."""
    case.assertIs(one == other, are)
    case.assertIs(other == one, are)
    case.assertIs(one != other, not are)
    case.assertIs(other != one, not are)
    case.assertIs(one in [None, other], are)
    case.assertIs(other in (one,), are)
