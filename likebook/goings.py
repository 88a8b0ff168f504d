"""A book made to tests, and how a going goes along them."""

from likebook.cases import other_side, side_of
from likebook.needless import kept
from likebook.packs import degree
from likebook.rulings import opposed_of


def tests_of(book):
    tests = []
    for k in kept(book):
        tests.extend(tests_of_one(book[k], k, len(tests)))
    tests.append(("free",))
    return tests


def tests_of_one(one, number, first):
    heads = heads_of(one)
    miss = first + len(heads) + 1
    asks = [head + (first + k + 1, miss) for k, head in enumerate(heads)]
    return asks + [("bound", one[1], number)]


# The tests of a ruling, still without where they lead to.
def heads_of(one):
    side = one[1]
    other = other_side(side)
    opposed = opposed_of(one)
    heads = [("least", side, name, amount) for name, amount in one[2]]
    heads.append(("none", other, tuple([name for name, amount in opposed])))
    heads.extend([("most", other, name, amount) for name, amount in opposed])
    return heads


def passes(test, case):
    held = side_of(case, test[1])
    if test[0] == "none":
        return all([(name in test[2]) for name, amount in held])
    if test[0] == "least":
        return degree(held, test[2]) >= test[3]
    return degree(held, test[2]) <= test[3]


def gone(tests, case):
    place = 0
    many = 0
    while tests[place][0] not in ("bound", "free"):
        test = tests[place]
        many = many + 1
        place = test[-2] if passes(test, case) else test[-1]
    return (tests[place], many)
