"""Point 2, and the interface's head: what is a family, a set, a thing and a member, and which refusal goes ahead."""

import unittest

from pickhouse.errors import NoFamily, NoMember, NoSet, NoThing
from pickhouse.families import is_family
from pickhouse.pressing import pressed
from pickhouse.telling import teller
from tests.helper import OF_A_FAMILY, OF_A_FAMILY_AND_THINGS, all_families, all_sets, mixed_families

FAR = 10 ** 30

FAMILIES = [
    (1, []),
    (1, [[]]),
    (1, [[0]]),
    (1, [[0], []]),
    (2, [[0, 1], [1], []]),
    (3, [[2], [0, 1], [], [0, 2]]),
    (6, []),
    (6, [[]]),
    (6, [[5]]),
    (6, [[0, 1, 2, 3, 4, 5], [0], [5]]),
    (6, all_sets(6)),
    (6, all_sets(6)[::-1]),
]

NO_FAMILIES = [
    (0, []),
    (0, [[]]),
    (0, [[0]]),
    (7, []),
    (7, [[]]),
    (7, [[6]]),
    (8, [[7]]),
    (-1, []),
    (-1, [[]]),
    (-1, [[-1]]),
    (-FAR, []),
    (60, [[59]]),
    (FAR, []),
    (FAR, [[], [FAR - 1]]),
    (3, [[-1]]),
    (3, [[-1, 0]]),
    (3, [[-FAR]]),
    (3, [[3]]),
    (3, [[0, 1, 2, 3]]),
    (3, [[FAR]]),
    (1, [[1]]),
    (6, [[6]]),
    (6, [[0, 6]]),
    (3, [[1, 0]]),
    (3, [[0, 2, 1]]),
    (3, [[2, 0, 1]]),
    (3, [[1, 1]]),
    (3, [[0, 1, 1]]),
    (3, [[0, 0, 1]]),
    (3, [[0, 1, 0]]),
    (3, [[0], [0]]),
    (3, [[], []]),
    (3, [[0], [1, 2], [0]]),
    (3, [[0, 1], [1, 0]]),
    (3, [[], [0], [1], [3]]),
    (3, [[3], [0], [1]]),
    (6, all_sets(6) + [[0, 5]]),
    (6, all_sets(6) + [[0, 6]]),
    (6, [list(range(70))]),
    (6, [[0] * 70]),
    (6, [[]] * 70),
]

NO_SETS_OF_THREE = [
    [-1], [-1, 0], [-FAR], [3], [0, 1, 2, 3], [FAR], [1, 0], [0, 2, 1], [1, 1], [0, 0, 1], [0, 1, 0], list(range(70)),
]


class WhatIsAFamily(unittest.TestCase):
    def test_families(self):
        for many, family in FAMILIES:
            self.assertIs(is_family(many, family), True, (many, family))

    def test_no_families(self):
        for many, family in NO_FAMILIES:
            self.assertIs(is_family(many, family), False, (many, family))

    def test_the_number_of_things(self):
        taken = [many for many in range(-10, 71) if is_family(many, [[]])]
        self.assertEqual(taken, [1, 2, 3, 4, 5, 6])

    def test_every_list_of_sets_each_once_is_one(self):
        for many in (1, 2, 3):
            for family in all_families(many):
                self.assertIs(is_family(many, family), True, (many, family))
        for many in (4, 5, 6):
            for family in mixed_families(many, 9):
                self.assertIs(is_family(many, family), True, (many, family))

    def test_a_member_told_again_at_any_place_makes_it_none(self):
        for family in list(all_families(2)):
            for one in family:
                for place in range(len(family) + 1):
                    twice = family[:place] + [list(one)] + family[place:]
                    self.assertIs(is_family(2, twice), False, twice)


class Refused(unittest.TestCase):
    def assert_refused(self, kind, call, *handed):
        try:
            answer = call(*handed)
        except ValueError as error:
            self.assertIs(type(error), kind, handed)
        else:
            self.fail(f"{handed} was answered with {answer}")

    def test_no_family(self):
        for name, call in OF_A_FAMILY.items():
            for many, family in NO_FAMILIES:
                with self.subTest(name=name, many=many, family=family):
                    self.assert_refused(NoFamily, call, many, family)

    def test_no_family_goes_ahead_of_no_set(self):
        for name, call in OF_A_FAMILY_AND_THINGS.items():
            for many, family in NO_FAMILIES:
                for things in ([], [0], [-1], [1, 0], [0, 0], [many], [FAR]):
                    with self.subTest(name=name, many=many, family=family, things=things):
                        self.assert_refused(NoFamily, call, many, family, things)

    def test_no_set(self):
        for name, call in OF_A_FAMILY_AND_THINGS.items():
            for things in NO_SETS_OF_THREE:
                for family in ([], [[]], [[2], [0, 1]], all_sets(3)):
                    with self.subTest(name=name, family=family, things=things):
                        self.assert_refused(NoSet, call, 3, family, things)

    def test_the_first_thing_beyond_is_refused_for_each_number(self):
        for name, call in OF_A_FAMILY_AND_THINGS.items():
            for many in range(1, 7):
                with self.subTest(name=name, many=many):
                    call(many, [[]], [many - 1])
                    self.assert_refused(NoSet, call, many, [[]], [many])

    def test_no_family_goes_ahead_of_no_thing(self):
        for many, family in NO_FAMILIES:
            for thing in (0, 1, -1, many - 1, many, 6, 7, FAR, -FAR):
                with self.subTest(many=many, family=family, thing=thing):
                    self.assert_refused(NoFamily, pressed, many, family, thing)

    def test_no_thing(self):
        for many in range(1, 7):
            for family in ([], [[]], [[0]], all_sets(many)):
                for thing in (-1, -many, -FAR, many, many + 1, 60, FAR):
                    with self.subTest(many=many, family=family, thing=thing):
                        self.assert_refused(NoThing, pressed, many, family, thing)

    def test_no_family_goes_ahead_of_no_set_and_no_member(self):
        for many, family in NO_FAMILIES:
            for member in [[], [0], [-1], [1, 0], [0, 0], [many], [FAR]] + family[:2]:
                with self.subTest(many=many, family=family, member=member):
                    self.assert_refused(NoFamily, teller, many, family, member)

    def test_no_set_goes_ahead_of_no_member(self):
        for family in ([], [[]], [[2], [0, 1]], all_sets(3)):
            for member in NO_SETS_OF_THREE:
                with self.subTest(family=family, member=member):
                    self.assert_refused(NoSet, teller, 3, family, member)
        for many in range(1, 7):
            self.assert_refused(NoSet, teller, many, [[many - 1]], [many])

    def test_no_member(self):
        for many, family in FAMILIES + [(3, family) for family in all_families(3)]:
            for one in all_sets(many):
                if one not in family:
                    self.assert_refused(NoMember, teller, many, family, one)

    def test_nothing_else_is_refused(self):
        for many, family in FAMILIES:
            for call in OF_A_FAMILY.values():
                call(many, family)
            for call in OF_A_FAMILY_AND_THINGS.values():
                for things in all_sets(many):
                    call(many, family, things)
            for thing in range(many):
                pressed(many, family, thing)
            for member in family:
                teller(many, family, member)
