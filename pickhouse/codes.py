"""A set as one number, its code: what two sets share, or don't, is then one step of bits.

Codes are of sets that were found to be sets already; nothing is refused here.
"""

# Read two ways: a thing's power is its bit in a code, and so many things have that many sets.
POWERS = (1, 2, 4, 8, 16, 32, 64)


def code_of(things):
    return sum([POWERS[thing] for thing in things])


def codes_of(family):
    return [code_of(one) for one in family]


def set_of(code):
    return [thing for thing, power in enumerate(POWERS) if code & power]


def kept_on(codes, things):
    kept = code_of(things)
    return [code & kept for code in codes]


def place_in_order(one):
    return (len(one), one)


# Every family that is told comes from here, as lists made anew: so none is the asker's, and no two are one.
def told(codes):
    return sorted([set_of(code) for code in sorted(set(codes))], key=place_in_order)


def sets_of(things):
    whole = code_of(things)
    return told([code for code in range(whole + 1) if (code & whole) == code])


def all_sets(many):
    return sets_of(list(range(many)))
