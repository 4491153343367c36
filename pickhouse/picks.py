"""Picking out: the sets that a family picks out whole, the cubes in it, its reach and the bound for a reach."""

from pickhouse.codes import POWERS, all_sets, code_of, codes_of, kept_on, sets_of, told
from pickhouse.families import check_family, check_set, left_on


# What is left is among the sets of the things, so it is all of them where it is as many.
def leaves_all(codes, things):
    return len(set(kept_on(codes, things))) == POWERS[len(things)]


# No two members with the same base are the same on the things, so a base
# that as many members have as there are sets of the things has them all.
def full_bases(codes, things):
    dropped = code_of(things)
    times = {}
    for code in codes:
        base = code & ~dropped
        times[base] = times.get(base, 0) + 1
    return [base for base in times if times[base] == POWERS[len(things)]]


def picks(many, family, things):
    check_family(many, family)
    check_set(many, things)
    return leaves_all(codes_of(family), things)


def missing(many, family, things):
    left = left_on(many, family, things)
    for one in sets_of(things):
        if one not in left:
            return one
    return None


def cube_at(many, family, things):
    check_family(many, family)
    check_set(many, things)
    bases = told(full_bases(codes_of(family), things))
    return bases[0] if bases else None


def picked(many, family):
    check_family(many, family)
    codes = codes_of(family)
    return [one for one in all_sets(many) if leaves_all(codes, one)]


def cubes(many, family):
    check_family(many, family)
    codes = codes_of(family)
    return [one for one in all_sets(many) if full_bases(codes, one)]


def reach(many, family):
    return max([len(one) for one in picked(many, family)], default=None)


# How many sets there are of each size comes from the size before: each of those grows by
# any thing that it lacks, and each greater set is come to once for each of its things.
def bound(many, most):
    total = 0
    exactly = 1
    for size in range(min(many, most) + 1):
        total = total + exactly
        exactly = exactly * (many - size) // (size + 1)
    return total
