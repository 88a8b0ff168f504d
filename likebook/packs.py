"""Packs of degrees: tuples of tuples (name, degree), sorted by their names, each name once."""

from likebook.errors import NoPack

NO_NAMES = ("and", "or", "not", "if", "is", "some", "all", "for", "against")


def is_name(thing):
    # The signs are compared one by one, since islower also takes letters beyond a to z.
    return (
        isinstance(thing, str)
        and 1 <= len(thing) <= 12
        and all([("a" <= sign <= "z") for sign in thing])
        and thing not in NO_NAMES
    )


def is_degree(thing):
    # To Python, True and False are ints; here they are no whole numbers.
    return isinstance(thing, int) and not isinstance(thing, bool) and 0 <= thing <= 10 ** 30


def greatest(pairs):
    found = {}
    for name, amount in pairs:
        found[name] = max(amount, found.get(name, 0))
    return tuple([pair for pair in sorted(found.items()) if pair[1] > 0])


def pack(pairs):
    # The words don't show the wrong thing: not every thing can be shown (a number of too many digits can't).
    for name, amount in pairs:
        if not is_name(name):
            raise NoPack("what stands in a name's place is no name")
        if not is_degree(amount):
            raise NoPack("what stands in a degree's place is no degree")
    return greatest(pairs)


def degree(one, name):
    return dict(one).get(name, 0)


def within(one, other):
    return over(one, other) == []


def meet(one, other):
    held = dict(other)
    return tuple([(name, min(amount, held[name])) for name, amount in one if name in held])


def join(one, other):
    return greatest(one + other)


def over(one, other):
    held = dict(other)
    return [name for name, amount in one if amount > held.get(name, 0)]


def excess(one, other):
    held = dict(other)
    return sum([max(amount - held.get(name, 0), 0) for name, amount in one])
