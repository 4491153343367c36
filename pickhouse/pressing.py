"""Pressing down: a family whose members lose a thing where they can, and families that are down."""

from pickhouse.codes import POWERS, codes_of, told
from pickhouse.families import check_family, check_thing


# A member that hasn't the thing is itself what it is without it, so it stays as those stay that can't lose it.
def pressed_codes(codes, thing):
    power = POWERS[thing]
    return [code if (code & ~power) in codes else code & ~power for code in codes]


def pressed(many, family, thing):
    check_family(many, family)
    check_thing(many, thing)
    return told(pressed_codes(codes_of(family), thing))


def pressed_down(many, family):
    check_family(many, family)
    codes = codes_of(family)
    for thing in range(many):
        codes = pressed_codes(codes, thing)
    return told(codes)


# Each part of a member comes of it by one thing lost after the other, so it is enough that no member can lose one.
def is_down(many, family):
    check_family(many, family)
    codes = codes_of(family)
    return all([pressed_codes(codes, thing) == codes for thing in range(many)])
