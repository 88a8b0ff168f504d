"""Acts as texts, read to lists of rows."""

from likebook.errors import NoRow, Twice, Unknown
from likebook.packs import is_name
from likebook.packtexts import number_of

MOST_ROWS = 24
MOST_OPENS = 4
MOST_DEEP = 8
OF_A_THING = ("fact", "open", "word")


# The words of one row, read from the left. Kinds tells, for each name told ahead, by which kind of row.
class Row:
    def __init__(self, number, text, kinds):
        self.number = number
        self.words = text.split(" ")
        self.place = 0
        self.kinds = kinds
        # What the row says of names, from the left: tuples (name, the kinds of rows that may have told it).
        self.said = []

    def peek(self):
        # No row has the empty word, so it can stand for the end.
        return self.words[self.place] if self.place < len(self.words) else ""

    def take(self):
        word = self.peek()
        self.place = self.place + 1
        return word

    def take_word(self, word):
        if self.take() != word:
            raise NoRow(self.number)

    def take_name(self):
        name = self.take()
        if not is_name(name):
            raise NoRow(self.number)
        return name

    def take_end(self):
        if self.place < len(self.words):
            raise NoRow(self.number)


def read_act(text):
    if not isinstance(text, str):
        raise NoRow(0)
    act = []
    kinds = {}
    for number, written in enumerate(text.split("\n")):
        if number == MOST_ROWS:
            raise NoRow(number)
        row = Row(number, written, kinds)
        told = read_row(row)
        check_names(row, told[1])
        kinds[told[1]] = told[0]
        act.append(told)
    return act


def check_names(row, told):
    if told in row.kinds:
        raise Twice(told)
    for name, tellers in row.said:
        if row.kinds.get(name) not in tellers:
            raise Unknown(name)


def read_row(row):
    kind = row.take()
    if kind == "fact":
        told = ("fact", row.take_name())
    elif kind == "open":
        told = read_open(row)
    elif kind == "word":
        told = ("word", read_head(row), read_saying(row, MOST_DEEP))
    elif kind == "claim":
        told = ("claim", read_head(row), read_asking(row, MOST_DEEP))
    else:
        raise NoRow(row.number)
    row.take_end()
    return told


def read_head(row):
    name = row.take_name()
    row.take_word("if")
    return name


def read_open(row):
    if list(row.kinds.values()).count("open") == MOST_OPENS:
        raise NoRow(row.number)
    name = row.take_name()
    row.take_word("for")
    fors = read_names(row)
    row.take_word("against")
    return ("open", name, fors, read_names(row))


def read_names(row):
    names = []
    while is_name(row.peek()):
        name = row.take()
        if name in names:
            raise NoRow(row.number)
        names.append(name)
        row.said.append((name, OF_A_THING))
    return tuple(names)


# A saying that is at most room deep.
def read_saying(row, room):
    if room < 1:
        raise NoRow(row.number)
    if row.peek() == "not":
        row.take()
        return ("not", read_saying(row, room - 1))
    if row.peek() == "(":
        return read_both(row, read_saying, room - 1)
    name = row.take_name()
    if row.peek() == ">=":
        return ("at", name, read_bound(row, name))
    row.said.append((name, OF_A_THING))
    return ("at", name, 1) if row.kinds.get(name) == "fact" else ("is", name)


# An asking that is at most room deep.
def read_asking(row, room):
    if room < 1:
        raise NoRow(row.number)
    if row.peek() == "(":
        return read_both(row, read_asking, room - 1)
    word = row.take()
    if word == "not":
        return ("not", read_asking(row, room - 1))
    if word not in ("some", "all"):
        raise NoRow(row.number)
    return (word, read_saying(row, room - 1))


def read_both(row, read_part, room):
    row.take_word("(")
    one = read_part(row, room)
    sign = row.take()
    if sign not in ("and", "or"):
        raise NoRow(row.number)
    other = read_part(row, room)
    row.take_word(")")
    return (sign, one, other)


def read_bound(row, name):
    row.take_word(">=")
    number = number_of(row.take())
    if number is None or not 1 <= number <= 10 ** 30:
        raise NoRow(row.number)
    row.said.append((name, ("fact",)))
    return number
