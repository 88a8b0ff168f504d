"""Sides and cases: a case is a tuple (fors, againsts) of two packs."""

from likebook.errors import NoSide


def check_side(side):
    # Only texts are compared: whatever else is handed in may not bear it.
    if not (isinstance(side, str) and side in ("for", "against")):
        raise NoSide("what stands in a side's place is no side")


def other_side(side):
    check_side(side)
    return "against" if side == "for" else "for"


def side_of(case, side):
    check_side(side)
    return case[0] if side == "for" else case[1]


def case_with(side, own, opposed):
    return (own, opposed) if side == "for" else (opposed, own)
