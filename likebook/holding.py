"""What holds of a thing: sayings, askings, and the case of an open word and a thing."""

from likebook.packs import degree, greatest


def of_facts(act, thing):
    facts = [row[1] for row in act if row[0] == "fact"]
    return tuple([pair for pair in thing if pair[0] in facts])


def holds(saying, thing, words):
    kind = saying[0]
    if kind == "at":
        return degree(thing, saying[1]) >= saying[2]
    if kind == "is":
        return saying[1] in words
    if kind == "not":
        return not holds(saying[1], thing, words)
    if kind == "and":
        return holds(saying[1], thing, words) and holds(saying[2], thing, words)
    return holds(saying[1], thing, words) or holds(saying[2], thing, words)


def so(asking, things, holding):
    kind = asking[0]
    if kind == "some":
        return any([holds(asking[1], thing, words) for thing, words in zip(things, holding)])
    if kind == "all":
        return all([holds(asking[1], thing, words) for thing, words in zip(things, holding)])
    if kind == "not":
        return not so(asking[1], things, holding)
    if kind == "and":
        return so(asking[1], things, holding) and so(asking[2], things, holding)
    return so(asking[1], things, holding) or so(asking[2], things, holding)


def pack_of(names, thing, words):
    # No name is both a fact and a word, so one of both places tells its degree.
    return greatest([(name, 1 if name in words else degree(thing, name)) for name in names])


def case_of(row, thing, words):
    return (pack_of(row[2], thing, words), pack_of(row[3], thing, words))
