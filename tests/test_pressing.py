"""Points 10 and 11: pressed by a thing, pressed down, and which families are down."""

import unittest

from pickhouse.families import ordered
from pickhouse.picks import picked, picks
from pickhouse.pressing import is_down, pressed, pressed_down
from tests.helper import all_families, all_sets, frozen, in_order, sets_in_order, small_and_mixed


def pressed_once(members, thing):
    """Straight from the words of point 10."""
    found = set()
    for one in members:
        without = one - {thing}
        if thing in one and without not in members:
            found.add(without)
        else:
            found.add(one)
    return found


def pressed_by(family, things):
    members = frozen(family)
    for thing in things:
        members = pressed_once(members, thing)
    return in_order(members)


def has_all_parts(family):
    return all(part in family for one in family for part in sets_in_order(one))


class PressedByAThing(unittest.TestCase):
    family = [[0, 2], [0, 1], [2], []]

    def test_each_member_that_has_it_loses_it(self):
        self.assertEqual(pressed(3, [[0, 1], [2], [0]], 0), [[], [1], [2]])
        self.assertEqual(pressed(3, [[1, 2], [0, 1, 2]], 1), [[2], [0, 2]])

    def test_but_where_it_would_be_a_member_already(self):
        self.assertEqual(pressed(3, self.family, 0), [[], [1], [2], [0, 2]])
        self.assertEqual(pressed(3, self.family, 1), [[], [0], [2], [0, 2]])
        self.assertEqual(pressed(3, self.family, 2), [[], [0], [2], [0, 1]])
        self.assertEqual(pressed(2, [[0, 1], [1], [0]], 0), [[], [1], [0, 1]])

    def test_a_member_already_before_that_counts_not_one_come_to(self):
        self.assertEqual(pressed(3, [[0, 1, 2], [0, 1], [0]], 1), [[0], [0, 1], [0, 2]])

    def test_the_edges(self):
        self.assertEqual(pressed(1, [[0]], 0), [[]])
        self.assertEqual(pressed(1, [[0], []], 0), [[], [0]])
        self.assertEqual(pressed(6, [[0, 1, 2, 3, 4, 5]], 5), [[0, 1, 2, 3, 4]])
        for many in range(1, 7):
            for thing in range(many):
                self.assertEqual(pressed(many, [], thing), [])
                self.assertEqual(pressed(many, [[]], thing), [[]])
                self.assertEqual(pressed(many, [[thing]], thing), [[]])
                self.assertEqual(pressed(many, all_sets(many)[::-1], thing), all_sets(many))

    def test_as_the_document_says_and_as_many_stay(self):
        for many, family in small_and_mixed():
            for thing in range(many):
                once = pressed(many, family, thing)
                self.assertEqual(once, pressed_by(family, [thing]), (many, family, thing))
                self.assertEqual(pressed(many, family[::-1], thing), once, (many, family, thing))
                self.assertEqual(len(once), len(family), (many, family, thing))

    def test_pressed_again_by_the_same_thing_it_stays(self):
        for many, family in small_and_mixed():
            for thing in range(many):
                once = pressed(many, family, thing)
                self.assertEqual(pressed(many, once, thing), once, (many, family, thing))

    def test_what_it_picks_out_pressed_it_picks_out_unpressed(self):
        for many, family in small_and_mixed():
            found = picked(many, family)
            for thing in range(many):
                for one in picked(many, pressed(many, family, thing)):
                    self.assertIn(one, found, (many, family, thing))


class PressedDown(unittest.TestCase):
    def test_ordinary(self):
        self.assertEqual(pressed_down(3, [[0, 2], [0, 1], [2], []]), [[], [0], [1], [2]])
        self.assertEqual(pressed_down(3, [[0, 1, 2], [0, 1], [2]]), [[], [1], [2]])
        self.assertEqual(pressed_down(4, [[0, 1, 2, 3], [1, 2, 3], [0, 3], [3]]), [[], [0], [2], [0, 2]])

    def test_from_the_first_thing_on(self):
        family = [[0, 2], [1], [2]]
        self.assertEqual(pressed_down(3, family), pressed_by(family, [0, 1, 2]))
        self.assertEqual(pressed_down(3, family), [[], [0], [2]])
        self.assertEqual(pressed_by(family, [2, 1, 0]), [[], [0], [1]])

    def test_the_edges(self):
        for many in range(1, 7):
            self.assertEqual(pressed_down(many, []), [])
            self.assertEqual(pressed_down(many, [[]]), [[]])
            self.assertEqual(pressed_down(many, [[many - 1]]), [[]])
            self.assertEqual(pressed_down(many, [list(range(many))]), [[]])
            self.assertEqual(pressed_down(many, all_sets(many)[::-1]), all_sets(many))
            self.assertEqual(pressed_down(many, all_sets(many)[1:]), all_sets(many)[:-1])

    def test_as_the_document_says(self):
        for many, family in small_and_mixed():
            down = pressed_down(many, family)
            self.assertEqual(down, pressed_by(family, range(many)), (many, family))
            self.assertEqual(pressed_down(many, family[::-1]), down, (many, family))
            self.assertEqual(len(down), len(family), (many, family))

    def test_it_is_down_and_stays_when_pressed_again(self):
        for many, family in small_and_mixed():
            down = pressed_down(many, family)
            self.assertTrue(has_all_parts(down), (many, family))
            self.assertIs(is_down(many, down), True, (many, family))
            self.assertEqual(pressed_down(many, down), down, (many, family))

    def test_its_members_are_all_picked_out_by_the_family(self):
        for many, family in small_and_mixed():
            for one in pressed_down(many, family):
                self.assertIs(picks(many, family, one), True, (many, family, one))


class Down(unittest.TestCase):
    def test_ordinary(self):
        self.assertIs(is_down(3, [[0, 1], [1], [], [0]]), True)
        self.assertIs(is_down(3, [[0, 1], [1], [], [2]]), False)
        self.assertIs(is_down(3, [[1], [0, 1]]), False)

    def test_the_edges(self):
        for many in range(1, 7):
            self.assertIs(is_down(many, []), True)
            self.assertIs(is_down(many, [[]]), True)
            self.assertIs(is_down(many, all_sets(many)), True)
            self.assertIs(is_down(many, all_sets(many)[::-1]), True)
            for thing in range(many):
                self.assertIs(is_down(many, [[thing]]), False)
                self.assertIs(is_down(many, [[thing], []]), True)

    def test_one_part_left_out(self):
        for many in range(1, 7):
            for whole in all_sets(many):
                parts = sets_in_order(whole)[::-1]
                self.assertIs(is_down(many, parts), True, whole)
                for part in parts[1:]:
                    self.assertIs(is_down(many, [one for one in parts if one != part]), False, (whole, part))

    def test_as_the_document_says(self):
        for many, family in small_and_mixed():
            self.assertIs(is_down(many, family), has_all_parts(family), (many, family))

    def test_a_family_is_down_just_where_pressing_leaves_it(self):
        for family in all_families(3):
            self.assertIs(is_down(3, family), pressed_down(3, family) == ordered(3, family), family)
