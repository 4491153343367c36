"""Point 1: what is handed in is neither changed nor kept, and what is told is the asker's own."""

import unittest
from copy import deepcopy

from pickhouse.families import is_family
from pickhouse.notes import read, shown
from pickhouse.picks import bound
from pickhouse.pressing import pressed
from pickhouse.telling import teller
from tests.helper import OF_A_FAMILY, OF_A_FAMILY_AND_THINGS, all_sets, mixed_families

FAMILIES = [
    (1, []),
    (1, [[0], []]),
    (3, [[0, 1], [2], [], [1]]),
    (4, [[3], [0, 3], [1, 3], [0, 1, 3], [2], [0, 2]]),
    (6, all_sets(6)),
] + [(5, family) for family in mixed_families(5, 4)]


def every_call():
    """Each call with what it is handed, made anew each time."""
    for name, call in OF_A_FAMILY.items():
        for many, family in FAMILIES:
            yield name, call, [many, deepcopy(family)]
    for name, call in OF_A_FAMILY_AND_THINGS.items():
        for many, family in FAMILIES:
            for things in all_sets(many):
                yield name, call, [many, deepcopy(family), list(things)]
    for many, family in FAMILIES:
        yield "is_family", is_family, [many, deepcopy(family)]
        yield "read", read, [shown(many, family)]
        for thing in range(many):
            yield "pressed", pressed, [many, deepcopy(family), thing]
        for member in family:
            yield "teller", teller, [many, deepcopy(family), list(member)]


def lists_in(value):
    if not isinstance(value, (list, tuple)):
        return []
    return [value] * isinstance(value, list) + [found for one in value for found in lists_in(one)]


def spoil(value):
    for found in lists_in(value):
        found.clear()
        found.append(99)


class Own(unittest.TestCase):
    def test_what_is_handed_in_is_not_changed(self):
        for name, call, handed in every_call():
            before = deepcopy(handed)
            call(*handed)
            self.assertEqual(handed, before, name)

    def test_no_list_told_is_another_or_was_handed_in(self):
        for name, call, handed in every_call():
            first = call(*handed)
            second = call(*handed)
            seen = lists_in(first) + lists_in(second) + lists_in(handed)
            self.assertEqual(len({id(one) for one in seen}), len(seen), (name, handed))

    def test_a_list_told_is_changed_and_nothing_else_turns(self):
        for name, call, handed in every_call():
            before = deepcopy(handed)
            answer = call(*handed)
            again = call(*handed)
            expected = deepcopy(answer)
            for found in lists_in(answer):
                found.append(99)
                rest = [one for one in lists_in(answer) if one is not found]
                self.assertTrue(all(99 not in one for one in rest), name)
                found.pop()
            spoil(answer)
            self.assertEqual(again, expected, name)
            self.assertEqual(handed, before, name)
            self.assertEqual(call(*handed), expected, name)

    def test_what_was_handed_in_is_changed_behind_and_nothing_told_turns(self):
        for name, call, handed in every_call():
            fresh = deepcopy(handed)
            answer = call(*handed)
            expected = deepcopy(answer)
            for one in handed:
                spoil(one)
            self.assertEqual(answer, expected, name)
            self.assertEqual(call(*fresh), expected, name)

    def test_a_member_may_be_handed_in_as_the_things_too(self):
        for name, call in OF_A_FAMILY_AND_THINGS.items():
            family = [[0, 1], [2], [], [1]]
            answer = call(3, family, family[0])
            self.assertEqual(answer, call(3, family, [0, 1]), name)
            self.assertEqual(family, [[0, 1], [2], [], [1]], name)

    def test_a_member_may_be_asked_for_by_its_own_list(self):
        family = [[0, 1], [2], [], [1]]
        answers = [teller(3, family, member) for member in family]
        self.assertEqual(answers, [[0], [2], [1, 2], [0, 1]])
        for answer in answers:
            spoil(answer)
        self.assertEqual(family, [[0, 1], [2], [], [1]])

    def test_the_kinds_told(self):
        for name, call, handed in every_call():
            answer = call(*handed)
            if name in ("picks", "is_family", "is_down"):
                self.assertIsInstance(answer, bool, name)
            elif name == "reach":
                self.assertTrue(answer is None or type(answer) is int, name)
            elif name in ("missing", "cube_at"):
                self.assertTrue(answer is None or is_family(handed[0], [answer]), name)
            elif name in ("teller", "apart"):
                self.assertIs(type(answer), list, name)
                self.assertTrue(is_family(handed[0], [answer]), name)
            elif name == "shown":
                self.assertIs(type(answer), str, name)
            elif name == "read":
                self.assertIs(type(answer), tuple, name)
                self.assertEqual([type(one) for one in answer], [int, list], name)
                self.assertTrue(is_family(*answer), name)
            else:
                self.assertIs(type(answer), list, name)
                self.assertTrue(all(type(one) is list for one in answer), name)
                self.assertTrue(is_family(handed[0], answer), name)
        self.assertIs(type(bound(6, 3)), int)
