"""What the tests share: sets and families laid out apart from the program, and the program's calls by name."""

from itertools import combinations

from pickhouse.families import flipped, left_on, ordered, others
from pickhouse.notes import shown
from pickhouse.picks import cube_at, cubes, missing, picked, picks, reach
from pickhouse.pressing import is_down, pressed_down
from pickhouse.telling import apart

OF_A_FAMILY = {
    "ordered": ordered,
    "others": others,
    "picked": picked,
    "cubes": cubes,
    "reach": reach,
    "pressed_down": pressed_down,
    "is_down": is_down,
    "apart": apart,
    "shown": shown,
}
OF_A_FAMILY_AND_THINGS = {
    "left_on": left_on,
    "flipped": flipped,
    "picks": picks,
    "missing": missing,
    "cube_at": cube_at,
}


def sets_in_order(things):
    """All sets of these things, in the document's order."""
    things = sorted(things)
    return [list(one) for size in range(len(things) + 1) for one in combinations(things, size)]


def all_sets(many):
    return sets_in_order(range(many))


def all_families(many):
    sets = all_sets(many)
    for number in range(2 ** len(sets)):
        yield [list(one) for place, one in enumerate(sets) if number >> place & 1]


def mixed_families(many, count):
    """So many families in mixed order, from the empty one up to that of all sets; the same ones each time."""
    state = 7 * many + count
    for turn in range(count):
        marked = []
        for one in all_sets(many):
            state = (state * 1103515245 + 12345) % 2 ** 31
            marked.append((state >> 8, one))
        size = turn * len(marked) // (count - 1)
        yield [one for mark, one in sorted(marked)[:size]]


def small_and_mixed():
    """Each family of 1 to 3 things, and some of 4 to 6 things, each with its number of things."""
    for many in (1, 2, 3):
        for family in all_families(many):
            yield many, family
    for many, count in ((4, 40), (5, 15), (6, 9)):
        for family in mixed_families(many, count):
            yield many, family


def frozen(family):
    return {frozenset(one) for one in family}


def in_order(frozen_sets):
    return sorted((sorted(one) for one in frozen_sets), key=lambda one: (len(one), one))
