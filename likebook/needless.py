"""What is needless in a book: rulings that another one covers."""

from likebook.books import binding
from likebook.cases import case_with
from likebook.packs import within
from likebook.rulings import opposed_of


def covers(one, other):
    return (
        one[1] == other[1]
        and within(one[2], other[2])
        and within(opposed_of(other), opposed_of(one))
    )


def is_kept(book, number):
    mine = book[number]
    for k, one in enumerate(book):
        if k != number and covers(one, mine) and (k < number or not covers(mine, one)):
            return False
    return True


def kept(book):
    return [k for k in range(len(book)) if is_kept(book, k)]


def first_cover(book, stay, one):
    for k in stay:
        if covers(book[k], one):
            return k
    return None


def cover_list(book):
    stay = kept(book)
    return [(None if k in stay else first_cover(book, stay, one)) for k, one in enumerate(book)]


def core(one):
    return (one[1], one[2], opposed_of(one))


def marrow(book):
    # No two kept ones have the same core, since they would cover each other.
    return sorted([core(book[k]) for k in kept(book)])


# A tuple (case, side) of a case that the first book binds to the side and the second doesn't, or None.
def bound_here_alone(here, there):
    for side, reason, opposed in marrow(here):
        # The least that a ruling binds: who binds it to this side covers that ruling.
        case = case_with(side, reason, opposed)
        found = binding(there, case)
        if found is None or found[0] != side:
            return (case, side)
    return None


def parted(one, other):
    found = bound_here_alone(one, other)
    if found is not None:
        return found + (True,)
    found = bound_here_alone(other, one)
    if found is not None:
        return found + (False,)
    return None
