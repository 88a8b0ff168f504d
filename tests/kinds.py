"""Things for tests: what is no text, no name, no degree, and how a refusal is looked at."""

from likebook import errors

NINE = ("and", "or", "not", "if", "is", "some", "all", "for", "against")

REFUSALS = (
    errors.NoPack, errors.NoSide, errors.NoReason, errors.TooMuch, errors.NoCourt, errors.Late,
    errors.NotAllowed, errors.NoRuling, errors.NotYours, errors.NoRow, errors.Twice, errors.Unknown,
)


class Unshown:
    """Neither shown, hashed nor compared: whoever does it fails otherwise than by a refusal."""

    __hash__ = None

    def __repr__(self):
        raise RuntimeError("shown")

    def __eq__(self, other):
        raise RuntimeError("compared")


def no_texts():
    return [
        None, True, False, 0, 1, -1, 2.5, 10 ** 5000, b"a", b"-", bytearray(b"a"), ["a"], [], ("a",), (),
        {"a": 1}, {}, {"a"}, object(), Unshown(), len, str, 1j, float("nan"),
    ]


def no_names():
    return no_texts() + list(NINE) + [
        "", "abcdefghijklm", "a" * 5000, "A", "Armed", "armeD", "a1", "1", "a b", " a", "a ", "a\n", "\n", "a_b",
        "a-b", "-", "a:1", ":", "`", "{", "@", "[",
    ]


def no_degrees():
    return [
        True, False, -1, -10 ** 30, 10 ** 30 + 1, 10 ** 31, 10 ** 5000, -10 ** 5000, None, "1", "", "a", b"1", 1.0,
        0.0, 2.5, 1j, float("nan"), float("inf"), [1], [], (1,), (), {}, {1}, object(), Unshown(), len, int,
    ]


def many_names():
    """Two hundred names, sorted."""
    return [f"x{one}{other}" for one in "abcdefghijklmnopqrst" for other in "abcdefghij"]


def assert_refused(test, kind, call, *handed):
    """The call is refused with just this kind: a BookError and a ValueError, none of the other refusals."""
    with test.assertRaises(errors.BookError) as caught:
        call(*handed)
    refusal = caught.exception
    test.assertIsInstance(refusal, ValueError)
    test.assertEqual([kind], [one for one in REFUSALS if isinstance(refusal, one)])
    return refusal
