"""The clerk: act, books, a number of things and a claim made to a list of parts."""

from likebook.cases import other_side, side_of
from likebook.errors import TooMuch
from likebook.packs import degree, greatest
from likebook.readings import MOST_USES, asking_of, open_uses, settled
from likebook.rulings import opposed_of

MOST_ASKED = 14


def clerk(act, books, many, claim):
    # Nothing but its refusal is asked for here: an untold claim is told ahead of TooMuch.
    asking_of(act, claim)
    uses = open_uses(act, many)
    questions = questions_of(act, books, many)
    if uses > MOST_USES or len(questions) + uses > MOST_ASKED:
        raise TooMuch("there are too many questions and open words")
    sheet = Sheet(act, books, many, claim, questions)
    sheet.draw([])
    return sheet.parts


class Sheet:
    def __init__(self, act, books, many, claim, questions):
        self.act = act
        self.books = books
        self.many = many
        self.claim = claim
        self.questions = questions
        self.parts = []
        self.places = {}

    def place_of(self, part):
        if part not in self.places:
            self.places[part] = len(self.parts)
            self.parts.append(part)
        return self.places[part]

    # The place of the part that goes on where the first questions were answered so; None where no things answer so.
    def draw(self, answers):
        things = things_like(self.many, answers)
        if things is None:
            return None
        if len(answers) == len(self.questions):
            return self.place_of(("told", settled(self.act, self.books, things, self.claim)[0]))
        question = self.questions[len(answers)]
        no = self.draw(answers + [(question, False)])
        yes = self.draw(answers + [(question, True)])
        if no is None or no == yes:
            return yes
        if yes is None:
            return no
        return self.place_of(question + (no, yes))


def questions_of(act, books, many):
    marks = marks_of(act, books)
    names = compared_names(act)
    questions = []
    for thing in range(many):
        questions.extend([("least", thing, name, amount) for name, amount in marks])
    for thing in range(many):
        for other in range(many):
            if thing != other:
                questions.extend([("as", thing, other, name) for name in names])
    return questions


def facts_of(act):
    return [row[1] for row in act if row[0] == "fact"]


# The facts among the lists of the opens, by which the things are compared, each once, in order.
def compared_names(act):
    found = {}
    for row in act:
        if row[0] == "open":
            for name in row[2] + row[3]:
                found[name] = True
    return [name for name in sorted(found) if name in facts_of(act)]


# The tuples (fact, degree) that each thing may be asked for, each once, in order.
def marks_of(act, books):
    facts = facts_of(act)
    found = {}
    for row in act:
        for mark in marks_of_row(row, books, facts):
            found[mark] = True
    return sorted(found)


def marks_of_row(row, books, facts):
    if row[0] == "fact":
        return []
    if row[0] != "open":
        return marks_of_part(row[2])
    found = []
    for one in books.get(row[1], []):
        found.extend(marks_of_ruling(row, one, facts))
    return found


# Those of a saying or an asking.
def marks_of_part(part):
    if part[0] == "at":
        return [(part[1], part[2])]
    if part[0] == "is":
        return []
    found = marks_of_part(part[1])
    return found + marks_of_part(part[2]) if len(part) == 3 else found


def marks_of_ruling(row, one, facts):
    # An open's lists lie as a case's packs do.
    lists = (row[2], row[3])
    own = [name for name in side_of(lists, one[1]) if name in facts]
    others = [name for name in side_of(lists, other_side(one[1])) if name in facts]
    opposed = opposed_of(one)
    found = [(name, amount) for name, amount in one[2] if name in own]
    # No degree is above the top, so there is nothing to be asked.
    found.extend([(name, degree(opposed, name) + 1) for name in others if degree(opposed, name) < 10 ** 30])
    return found


# The things of the least degrees that answer so, or None where there are none such.
def things_like(many, answers):
    lows = {}
    highs = {}
    gaps = []
    for question, yes in answers:
        if question[0] == "as":
            gaps.append(gap_of(question, yes))
        elif yes:
            lows[question[1:3]] = max(question[3], lows.get(question[1:3], 0))
        else:
            highs[question[1:3]] = min(question[3] - 1, highs.get(question[1:3], question[3]))
    degrees = raised(many, lows, gaps)
    if not fits(degrees, highs, gaps):
        return None
    return [thing_of(number, degrees) for number in range(many)]


# A tuple (upper, lower, step): the upper's degree is at least the lower's with the step on it.
def gap_of(question, yes):
    one = (question[1], question[3])
    other = (question[2], question[3])
    return (one, other, 0) if yes else (other, one, 1)


def raised(many, lows, gaps):
    degrees = dict(lows)
    # A row of things, each above the one ahead, has no more steps than things, but where it bites its own tail.
    for turn in range(many):
        for upper, lower, step in gaps:
            degrees[upper] = max(degrees.get(upper, 0), degrees.get(lower, 0) + step)
    return degrees


def fits(degrees, highs, gaps):
    for upper, lower, step in gaps:
        if degrees.get(upper, 0) < degrees.get(lower, 0) + step:
            return False
    return all([amount <= highs.get(key, 10 ** 30) for key, amount in degrees.items()])


def thing_of(number, degrees):
    return greatest([(key[1], amount) for key, amount in degrees.items() if key[0] == number])
