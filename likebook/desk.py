"""The desk: it is told texts and answers with texts."""

from likebook.actreader import read_act
from likebook.cases import side_of
from likebook.courts import Courts
from likebook.errors import NoPack, NoRow, Unknown
from likebook.houses import House
from likebook.packs import is_name
from likebook.packtexts import number_of, read_pack
from likebook.readings import settled

MOST_THINGS = 6


def read_name(word):
    if not is_name(word):
        raise NoRow(0)
    return word


def read_number(word):
    number = number_of(word)
    if number is None:
        raise NoRow(0)
    return number


def read_side(word):
    if word not in ("for", "against"):
        raise NoRow(0)
    return word


def read_pack_word(word):
    try:
        return read_pack(word.replace(",", " "))
    except NoPack:
        raise NoRow(0) from None


def read_words(words, readers):
    if len(words) != len(readers):
        raise NoRow(0)
    return [reader(word) for reader, word in zip(readers, words)]


def say_court(desk, words):
    if len(words) == 3 and words[1] == "under":
        told = read_words([words[0], words[2]], (read_name, read_name))
    else:
        told = read_words(words, (read_name,)) + [None]
    desk.house.founded(told[0], told[1])
    return "ok"


def say_judge(desk, words):
    told = read_words(words, (
        read_number, read_name, read_name, read_pack_word, read_pack_word, read_side, read_pack_word))
    court = told[1]
    word = told[2]
    case = (told[3], told[4])
    side = told[5]
    desk.check_packs(word, [("for", case[0]), ("against", case[1]), (side, told[6])])
    desk.check_court_and_word(court, word)
    return str(desk.house.enter(told[0], court, word, case, side, told[6]))


def say_overrule(desk, words):
    told = read_words(words, (read_number, read_name, read_number))
    desk.house.overrule(told[0], told[1], told[2])
    return "ok"


def say_bound(desk, words):
    readers = (read_name, read_name, read_pack_word, read_pack_word)
    if len(words) == 5:
        readers = readers + (read_number,)
    told = read_words(words, readers)
    case = (told[2], told[3])
    desk.check_packs(told[1], [("for", case[0]), ("against", case[1])])
    desk.check_court_and_word(told[0], told[1])
    found = desk.house.bound(told[0], told[1], case, told[4] if len(told) == 5 else None)
    return "free" if found is None else " ".join([found[0], str(found[1])])


def say_fate(desk, words):
    told = read_words(words, (read_number,))
    rows = [" ".join([str(part) for part in row]) for row in desk.house.fate(told[0])]
    return "; ".join(rows)


def say_claim(desk, words):
    if len(words) > MOST_THINGS + 2:
        raise NoRow(0)
    told = read_words(words, (read_name, read_name) + (read_pack_word,) * (len(words) - 2))
    books = desk.books_of(told[0])
    return settled(desk.act, books, told[2:], told[1])[0]


def say_stands(desk, words):
    told = read_words(words, (read_name, read_name))
    desk.check_court_and_word(told[0], told[1])
    numbers = desk.house.standing(told[0], told[1])
    return "none" if numbers == [] else " ".join([str(number) for number in numbers])


def check_lists(row, packs):
    # An open's lists lie as a case's packs do.
    for side, one in packs:
        names = side_of((row[2], row[3]), side)
        if not all([(name in names) for name, amount in one]):
            raise NoRow(0)


SAYERS = {
    "court": say_court,
    "judge": say_judge,
    "overrule": say_overrule,
    "bound": say_bound,
    "fate": say_fate,
    "claim": say_claim,
    "stands": say_stands,
}


class Desk:
    def __init__(self):
        self.act = []
        self.house = House(Courts([]))

    def say(self, text):
        if not isinstance(text, str):
            raise NoRow(0)
        if text.startswith("act\n"):
            return self.say_act(text[4:])
        words = text.split(" ")
        if words[0] not in SAYERS:
            raise NoRow(0)
        return SAYERS[words[0]](self, words[1:])

    def say_act(self, text):
        self.act = read_act(text)
        self.house = House(self.house.courts)
        return "ok"

    def names_told(self, kinds):
        return [row[1] for row in self.act if row[0] in kinds]

    def books_of(self, court):
        self.house.check_court(court)
        books = {}
        for word in self.names_told(("open",)):
            books[word] = self.house.book(court, word)
        return books

    def check_court_and_word(self, court, word):
        self.house.check_court(court)
        if word not in self.names_told(("open",)):
            raise Unknown(word)

    # The packs come as tuples (side, pack).
    def check_packs(self, word, packs):
        whole = self.names_told(("open", "word"))
        for side, one in packs:
            for name, amount in one:
                if amount > 1 and name in whole:
                    raise NoRow(0)
        for row in self.act:
            if row[0] == "open" and row[1] == word:
                check_lists(row, packs)
