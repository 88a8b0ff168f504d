"""Least reasons: the least packs by which a ruling of a case is allowed in a book."""

from likebook.cases import side_of
from likebook.errors import TooMuch
from likebook.packs import degree, join, over, within

MOST_REASONS = 100


def least_reasons(book, case, side):
    held = side_of(case, side)
    least = [()]
    for one in book:
        # Only these can stand against a ruling of the case: those whose own reason the case has in it.
        if one[1] != side and within(one[2], side_of(case, one[1])):
            least = beyond(least, held, side_of(one[0], side))
        if len(least) > MOST_REASONS:
            raise TooMuch("there are too many least reasons")
    return sorted(least)


# The least packs within held that have one of least within them and are not within reach themselves.
def beyond(least, held, reach):
    free = [one for one in least if not within(one, reach)]
    caught = [one for one in least if within(one, reach)]
    found = list(free)
    for name in over(held, reach):
        found.extend(lifted(free, caught, (name, degree(reach, name) + 1)))
    return found


def lifted(free, caught, step):
    # No pack of least is within another one, and step alone leads out of reach. So within a lifted pack
    # lie at most those free ones that have just this step, and those lifted ones that had the name before.
    name = step[0]
    rivals = [one for one in free if degree(one, name) == step[1]]
    rivals.extend([join(one, (step,)) for one in caught if degree(one, name) > 0])
    made = [join(one, (step,)) for one in caught]
    return [one for one in made if is_least(one, rivals)]


def is_least(one, rivals):
    return not any([(rival != one and within(rival, one)) for rival in rivals])
