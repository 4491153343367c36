"""Telling apart: the first things in order that tell a member from the others, or all members from one another."""

from pickhouse.codes import all_sets, code_of, codes_of, kept_on
from pickhouse.errors import NoMember
from pickhouse.families import check_family, check_set


def tells(codes, own, things):
    return kept_on(codes, things).count(own & code_of(things)) == 1


def tells_apart(codes, things):
    return len(set(kept_on(codes, things))) == len(codes)


# No two members are the same on all the things, so below there is a set to be told in any case: that of all, the last.
def teller(many, family, member):
    check_family(many, family)
    check_set(many, member)
    codes = codes_of(family)
    own = code_of(member)
    if own not in codes:
        raise NoMember("the set is no member of the family")
    return [things for things in all_sets(many) if tells(codes, own, things)][0]


def apart(many, family):
    check_family(many, family)
    codes = codes_of(family)
    return [things for things in all_sets(many) if tells_apart(codes, things)][0]
