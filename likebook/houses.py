"""Houses: courts, their rulings about words, and what stands from day to day."""

from likebook.books import barred, binding
from likebook.courts import Courts
from likebook.errors import Late, NoRuling, NotAllowed, NotYours
from likebook.rulings import against, ruling


# Whether the ruling of this fate stood when all deeds up to that day were done; of no day, whether it stands.
def stood(fate, day):
    if day is None:
        return len(fate) == 1
    return fate[0][1] <= day and (len(fate) == 1 or fate[1][1] > day)


class House:
    def __init__(self, courts):
        # A house founds courts of its own, so those that were handed in stay as they are.
        self.courts = Courts(courts.pairs_told())
        # For each number (court, word, ruling), and beside it the fate.
        self.entries = []
        self.fates = []
        self.last_day = None

    def founded(self, court, above=None):
        self.courts.found(court, above)

    def enter(self, day, court, word, case, side, reason):
        self.check_deed(day, court)
        made = ruling(case, side, reason)
        self.check_allowed(court, word, made)
        number = len(self.entries)
        for k in self.felled(court, word, made):
            self.fates[k].append(("fell", day, number))
        self.entries.append((court, word, made))
        self.fates.append([("entered", day, court)])
        self.last_day = day
        return number

    def overrule(self, day, court, number):
        self.check_deed(day, court)
        self.check_number(number)
        if not stood(self.fates[number], None):
            raise NoRuling("the ruling of this number doesn't stand")
        if court not in self.courts.line(self.entries[number][0]):
            raise NotYours("the ruling's court hasn't this court in its line")
        self.fates[number].append(("overruled", day, court))
        self.last_day = day

    def standing(self, court, word, day=None):
        line = self.courts.line(court)
        return [k for k in self.about(word, day) if self.entries[k][0] in line]

    def bound(self, court, word, case, day=None):
        numbers = self.standing(court, word, day)
        found = binding(self.rulings_at(numbers), case)
        return None if found is None else (found[0], numbers[found[1]])

    def ruling_of(self, number):
        self.check_number(number)
        return self.entries[number][2]

    def fate(self, number):
        self.check_number(number)
        return list(self.fates[number])

    def book(self, court, word):
        return self.rulings_at(self.standing(court, word))

    # The numbers of all rulings about the word that stood on the day, of whatever courts.
    def about(self, word, day):
        return [
            k for k, entry in enumerate(self.entries)
            if entry[1] == word and stood(self.fates[k], day)
        ]

    def rulings_at(self, numbers):
        return [self.entries[k][2] for k in numbers]

    def felled(self, court, word, made):
        return [k for k in self.about(word, None) if self.is_felled(k, court, made)]

    def is_felled(self, number, court, made):
        entry = self.entries[number]
        return entry[0] != court and court in self.courts.line(entry[0]) and against(entry[2], made)

    def check_court(self, court):
        # Nothing but its refusal is asked for here.
        self.courts.line(court)

    def check_deed(self, day, court):
        self.check_court(court)
        if self.last_day is not None and day < self.last_day:
            raise Late("a deed was done on a later day")

    def check_allowed(self, court, word, made):
        numbers = self.standing(court, word)
        found = barred(self.rulings_at(numbers), made)
        if found is not None:
            raise NotAllowed(numbers[found])

    def check_number(self, number):
        whole = isinstance(number, int) and not isinstance(number, bool)
        if not (whole and 0 <= number < len(self.entries)):
            raise NoRuling("there is no ruling of this number")
