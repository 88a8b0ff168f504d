"""Readings of an act: every row of allowed rulings on the open words of some things."""

from likebook.books import binding, fullest
from likebook.errors import TooMuch, Unknown
from likebook.holding import case_of, holds, of_facts, so

MOST_USES = 8


def open_uses(act, many):
    return len([row for row in act if row[0] == "open"]) * many


def readings(act, books, things):
    if open_uses(act, len(things)) > MOST_USES:
        raise TooMuch("there are too many open words and things")
    known = [of_facts(act, thing) for thing in things]
    found = [([], [[] for thing in known])]
    for row in act:
        if row[0] == "word":
            found = [with_word(row, known, reading) for reading in found]
        elif row[0] == "open":
            found = with_open(row, books.get(row[1], []), known, found)
    return found


def with_word(row, known, reading):
    holding = []
    for thing, words in zip(known, reading[1]):
        more = [row[1]] if holds(row[2], thing, words) else []
        holding.append(words + more)
    return (reading[0], holding)


def with_open(row, book, known, found):
    for number, thing in enumerate(known):
        longer = []
        for reading in found:
            longer.extend(ways(row, book, number, thing, reading))
        found = longer
    return found


# The one or two readings that this one is continued by, with the open word settled of that thing.
def ways(row, book, number, thing, reading):
    name = row[1]
    case = case_of(row, thing, reading[1][number])
    bound = binding(book + [entry[2] for entry in reading[0] if entry[0] == name], case)
    if bound is not None:
        return [continued(reading, [], number, [name] if bound[0] == "for" else [])]
    return [
        continued(reading, [(name, number, fullest(case, "for"))], number, [name]),
        continued(reading, [(name, number, fullest(case, "against"))], number, []),
    ]


def continued(reading, entries, number, names):
    # All lists are made anew, so that no two readings share one.
    holding = [list(words) for words in reading[1]]
    holding[number].extend(names)
    return (reading[0] + entries, holding)


def asking_of(act, claim):
    for row in act:
        if row[0] == "claim" and row[1] == claim:
            return row[2]
    raise Unknown(claim)


def settled(act, books, things, claim):
    asking = asking_of(act, claim)
    known = [of_facts(act, thing) for thing in things]
    yes = []
    no = []
    for reading in readings(act, books, things):
        if so(asking, known, reading[1]):
            yes.append(reading)
        else:
            no.append(reading)
    if no == []:
        return ("must", [])
    if yes == []:
        return ("never", [])
    return ("open", [yes[0], no[0]])


def entered(books, reading):
    grown = {}
    for word, book in books.items():
        grown[word] = list(book)
    for word, number, one in reading[0]:
        grown[word] = grown.get(word, []) + [one]
    return grown
