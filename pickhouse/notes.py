"""Notes: a family written as a text, and read from one."""

from pickhouse.codes import all_sets
from pickhouse.errors import NoNote
from pickhouse.families import MOST_THINGS, ordered


def head_of(many):
    return f"things {many}"


def line_of(one):
    return " ".join([str(thing) for thing in one]) if one else "-"


def shown(many, family):
    members = ordered(many, family)
    return "\n".join([head_of(many)] + [line_of(one) for one in members])


# Compared with each head that is written, not read by int, which takes `01` and `+3` as well.
def number_at(head):
    for many in range(1, MOST_THINGS + 1):
        if head == head_of(many):
            return many
    raise NoNote("the first line is not that of 1 to 6 things")


# A text that is written is so by the very family whose lines stand in it; one that this family isn't
# written as, for a line too many, twice or out of its place, is written by none.
def read(text):
    lines = text.split("\n")
    many = number_at(lines[0])
    family = [one for one in all_sets(many) if line_of(one) in lines]
    if shown(many, family) != text:
        raise NoNote("the lines are not those of a family's members in order")
    return (many, family)
