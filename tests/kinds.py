"""Things for tests: what is no text, no name, no degree, no side; how a refusal is looked at; small packs, cases and
books, and what the document says of them, apart from the program."""

import itertools

from likebook import errors

NINE = ("and", "or", "not", "if", "is", "some", "all", "for", "against")

REFUSALS = (
    errors.NoPack, errors.NoSide, errors.NoReason, errors.TooMuch, errors.NoCourt, errors.Late,
    errors.NotAllowed, errors.NoRuling, errors.NotYours, errors.NoRow, errors.Twice, errors.Unknown,
)


class Unshown:
    """Neither shown, hashed nor compared: whoever does it fails otherwise than by a refusal."""

    __hash__ = None

    def __repr__(self):
        raise RuntimeError("shown")

    def __eq__(self, other):
        raise RuntimeError("compared")


def no_texts():
    return [
        None, True, False, 0, 1, -1, 2.5, 10 ** 5000, b"a", b"-", bytearray(b"a"), ["a"], [], ("a",), (),
        {"a": 1}, {}, {"a"}, object(), Unshown(), len, str, 1j, float("nan"),
    ]


def no_names():
    return no_texts() + list(NINE) + [
        "", "abcdefghijklm", "a" * 5000, "A", "Armed", "armeD", "a1", "1", "a b", " a", "a ", "a\n", "\n", "a_b",
        "a-b", "-", "a:1", ":", "`", "{", "@", "[",
    ]


def no_degrees():
    return [
        True, False, -1, -10 ** 30, 10 ** 30 + 1, 10 ** 31, 10 ** 5000, -10 ** 5000, None, "1", "", "a", b"1", 1.0,
        0.0, 2.5, 1j, float("nan"), float("inf"), [1], [], (1,), (), {}, {1}, object(), Unshown(), len, int,
    ]


def many_names():
    """Two hundred names, sorted."""
    return [f"x{one}{other}" for one in "abcdefghijklmnopqrst" for other in "abcdefghij"]


def assert_refused(test, kind, call, *handed):
    """The call is refused with just this kind: a BookError and a ValueError, none of the other refusals."""
    with test.assertRaises(errors.BookError) as caught:
        call(*handed)
    refusal = caught.exception
    test.assertIsInstance(refusal, ValueError)
    test.assertEqual([kind], [one for one in REFUSALS if isinstance(refusal, one)])
    return refusal


def no_sides():
    """What is no side, of any kind, also texts near for and against."""
    return no_texts() + [
        "", "For", "FOR", "Against", "AGAINST", "for ", " for", "for\n", "against ", "\nagainst", "fo", "fors",
        "againsts", "agains", "forr", "for against", "foragainst", "none", "late", "both", "0", "1", "True", "-",
        ["for"], ["for", "against"], ("for",), ("against",), ("for", "against"), {"for": 1}, {"against": "for"},
        {"for"}, b"for", b"against",
    ]


def packs_of(tops):
    """Every pack of these names with degrees up to their tops, which stand by the names in a dict."""
    names = sorted(tops)
    ranges = [range(tops[name] + 1) for name in names]
    return [
        tuple((name, amount) for name, amount in zip(names, amounts) if amount) for amounts in itertools.product(*ranges)
    ]


def cases_of(fors, againsts):
    return [(one, other) for one in packs_of(fors) for other in packs_of(againsts)]


def rulings_of(case):
    """Every ruling of the case, for both sides."""
    return [
        (case, side, reason)
        for side, held in zip(("for", "against"), case) for reason in packs_of(dict(held))
    ]


def is_within(one, other):
    """The document's words, apart from the program."""
    return all(amount <= dict(other).get(name, 0) for name, amount in one)


def own_pack(case, side):
    return {"for": case[0], "against": case[1]}[side]


def opposed_pack(case, side):
    return {"for": case[1], "against": case[0]}[side]


def is_bound_by(one, case):
    return is_within(one[2], own_pack(case, one[1])) and is_within(opposed_pack(case, one[1]), opposed_pack(one[0], one[1]))


def stand_against(one, other):
    return (
        one[1] != other[1] and is_within(one[2], opposed_pack(other[0], other[1]))
        and is_within(other[2], opposed_pack(one[0], one[1]))
    )


def some_pack(chance, tops):
    return tuple((name, amount) for name in sorted(tops) if (amount := chance.randint(0, tops[name])))


def some_ruling(chance, fors, againsts):
    case = (some_pack(chance, fors), some_pack(chance, againsts))
    side = chance.choice(("for", "against"))
    return (case, side, some_pack(chance, dict(own_pack(case, side))))


def whole_book(chance, length, fors, againsts):
    """A book grown by allowed rulings alone, at most this long."""
    book = []
    for turn in range(3 * length):
        one = some_ruling(chance, fors, againsts)
        if len(book) < length and not any(stand_against(one, other) for other in book):
            book.append(one)
    return book


def no_courts():
    """What is no court where high, low and side are told."""
    return no_texts() + ["", "High", "high ", "lo", "lows", "other", "high low", "high\n", ("high",), ["high"], {"high": None}]


def some_saying(chance, facts, words, deep):
    """A saying as a text: facts with and without >=, opens and words."""
    if deep == 1 or chance.random() < 0.3:
        name = chance.choice(facts + words)
        return name + (f" >= {chance.choice((1, 2))}" if name in facts and chance.random() < 0.4 else "")
    if chance.random() < 0.4:
        return f"not {some_saying(chance, facts, words, deep - 1)}"
    one, other = some_saying(chance, facts, words, deep - 1), some_saying(chance, facts, words, deep - 1)
    return f"( {one} {chance.choice(('and', 'or'))} {other} )"


def some_asking(chance, facts, words, deep):
    if deep == 2 or chance.random() < 0.4:
        return f"{chance.choice(('some', 'all'))} {some_saying(chance, facts, words, deep - 1)}"
    if chance.random() < 0.4:
        return f"not {some_asking(chance, facts, words, deep - 1)}"
    one, other = some_asking(chance, facts, words, deep - 1), some_asking(chance, facts, words, deep - 1)
    return f"( {one} {chance.choice(('and', 'or'))} {other} )"


def some_act(chance, facts, kinds, deep):
    """An act as a text: the facts, and behind them a row of each of these kinds, opens at most four."""
    rows, words = [f"fact {name}" for name in facts], []
    for name, kind in zip("opqrstuv", kinds):
        if kind == "open":
            lists = [chance.sample(facts + words, chance.randint(0, min(3, len(facts + words)))) for turn in "ab"]
            rows.append(" ".join(["open", name, "for"] + lists[0] + ["against"] + lists[1]))
            words.append(name)
        elif kind == "claim":
            rows.append(f"claim {name} if {some_asking(chance, facts, words, deep)}")
        else:
            rows.append(f"word {name} if {some_saying(chance, facts, words, deep)}")
            words.append(name)
    return "\n".join(rows)


def tops_of(act, row, top):
    """For an open's row, the greatest degrees by names of both its lists: facts up to top, words up to 1."""
    facts = [one[1] for one in act if one[0] == "fact"]
    return [{name: top if name in facts else 1 for name in names} for names in row[2:]]


def some_books(chance, act, length, top):
    return {row[1]: whole_book(chance, length, *tops_of(act, row, top)) for row in act if row[0] == "open"}
