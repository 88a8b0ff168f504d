"""Books: lists of rulings, numbered from 0."""

from likebook.cases import side_of
from likebook.rulings import against, binds, ruling


def torn(book):
    for j, one in enumerate(book):
        k = barred(book[:j], one)
        if k is not None:
            return (k, j)
    return None


def binding(book, case):
    for k, one in enumerate(book):
        if binds(one, case):
            return (one[1], k)
    return None


def barred(book, one):
    for k, other in enumerate(book):
        if against(other, one):
            return k
    return None


def fullest(case, side):
    return ruling(case, side, side_of(case, side))
