"""Plans: which case would have to be judged so that another one is bound, and how far a case is from being bound."""

from likebook.books import barred
from likebook.cases import case_with, other_side, side_of
from likebook.packs import excess, join, meet, over
from likebook.rulings import binds, opposed_of, ruling


def plan(book, cases, target, side):
    other = other_side(side)
    for k, one in enumerate(book):
        if one[1] == side and binds(one, target):
            return ("bound", k)
    why = []
    for j, case in enumerate(cases):
        made = ruling(case, side, meet(side_of(case, side), side_of(target, side)))
        more = over(side_of(target, other), side_of(case, other))
        by = barred(book, made)
        if more == [] and by is None:
            return ("judge", j, made)
        why.append(("against", by) if more == [] else ("more", more[0]))
    return ("none", why)


def far(book, case, side):
    own = side_of(case, side)
    opposed = side_of(case, other_side(side))
    best = None
    for k, one in enumerate(book):
        if one[1] == side:
            amount = excess(one[2], own) + excess(opposed, opposed_of(one))
            if best is None or amount < best[0]:
                best = (amount, k, case_with(side, join(own, one[2]), meet(opposed, opposed_of(one))))
    return best
