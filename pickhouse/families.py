"""Families: what is one, its others, what it leaves on some things, and flipped."""

from pickhouse.codes import POWERS, code_of, codes_of, kept_on, told
from pickhouse.errors import NoFamily, NoSet, NoThing

MOST_THINGS = 6


def is_set(many, things):
    before = -1
    for thing in things:
        if thing <= before or thing >= many:
            return False
        before = thing
    return True


def is_family(many, family):
    # The number goes first: only up to the most things does a set have a code.
    if many < 1 or many > MOST_THINGS:
        return False
    for one in family:
        if not is_set(many, one):
            return False
    return len(set(codes_of(family))) == len(family)


def check_family(many, family):
    if not is_family(many, family):
        raise NoFamily("the number and the list are no family of sets of 1 to 6 things")


def check_set(many, things):
    if not is_set(many, things):
        raise NoSet("the list is no set of the things")


def check_thing(many, thing):
    if thing < 0 or thing >= many:
        raise NoThing("the number is none of the things")


def ordered(many, family):
    check_family(many, family)
    return told(codes_of(family))


def others(many, family):
    check_family(many, family)
    members = codes_of(family)
    return told([code for code in range(POWERS[many]) if code not in members])


def left_on(many, family, things):
    check_family(many, family)
    check_set(many, things)
    return told(kept_on(codes_of(family), things))


def flipped(many, family, things):
    check_family(many, family)
    check_set(many, things)
    turned = code_of(things)
    return told([code ^ turned for code in codes_of(family)])
