"""Rulings: tuples (case, side, reason), the reason a pack within the case's pack of that side."""

from likebook.cases import other_side, side_of
from likebook.errors import NoReason
from likebook.packs import over, within


def ruling(case, side, reason):
    if not within(reason, side_of(case, side)):
        raise NoReason("the reason isn't within the case's pack of that side")
    return (case, side, reason)


def opposed_of(one):
    return side_of(one[0], other_side(one[1]))


def binds(one, case):
    return apart(one, case) == []


def apart(one, case):
    side = one[1]
    less = over(one[2], side_of(case, side))
    more = over(side_of(case, other_side(side)), opposed_of(one))
    return [("less", name) for name in less] + [("more", name) for name in more]


def against(one, other):
    return (
        one[1] != other[1]
        and within(one[2], side_of(other[0], one[1]))
        and within(other[2], side_of(one[0], other[1]))
    )
