"""Points 6 to 9: what is picked out, what is missing, the reach, the bound, and cubes."""

import unittest
from math import comb

from pickhouse.families import left_on, others
from pickhouse.picks import bound, cube_at, cubes, missing, picked, picks, reach
from tests.helper import all_families, all_sets, frozen, mixed_families, sets_in_order, small_and_mixed


def first_missing(family, things):
    """Straight from the words of point 6."""
    left = {one & set(things) for one in frozen(family)}
    for one in sets_in_order(things):
        if frozenset(one) not in left:
            return one
    return None


def first_base(many, family, things):
    """Straight from the words of point 8."""
    members = frozen(family)
    for base in sets_in_order(set(range(many)) - set(things)):
        if all(frozenset(base + part) in members for part in sets_in_order(things)):
            return base
    return None


class PickedOut(unittest.TestCase):
    def test_ordinary(self):
        family = [[0, 1], [2], [], [0, 2]]
        self.assertIs(picks(3, family, [0, 2]), True)
        self.assertIs(picks(3, family, [0, 1]), False)
        self.assertIs(picks(3, family, [1]), True)
        self.assertIs(picks(3, family, [0, 1, 2]), False)
        self.assertEqual(picked(3, family), [[], [0], [1], [2], [0, 2]])
        self.assertEqual(picked(3, [[1], [2], [0, 1, 2], []]), [[], [0], [1], [2], [1, 2]])

    def test_a_family_with_a_member_picks_out_the_empty_set(self):
        for many in (1, 2, 3):
            for family in all_families(many):
                self.assertIs(picks(many, family, []), family != [])
                self.assertEqual(missing(many, family, []), None if family else [])

    def test_a_family_without_a_member_picks_out_nothing(self):
        for many in range(1, 7):
            self.assertEqual(picked(many, []), [])
            for things in all_sets(many):
                self.assertIs(picks(many, [], things), False)
                self.assertEqual(missing(many, [], things), [])

    def test_the_family_of_all_sets_picks_out_all(self):
        for many in range(1, 7):
            self.assertEqual(picked(many, all_sets(many)), all_sets(many))
            self.assertIs(picks(many, all_sets(many), list(range(many))), True)
            self.assertIsNone(missing(many, all_sets(many), list(range(many))))

    def test_missing_is_the_first_in_order(self):
        self.assertEqual(missing(4, [[], [0], [1], [3], [0, 1], [1, 3], [0, 1, 3]], [0, 1, 3]), [0, 3])
        self.assertEqual(missing(4, [[], [0], [1], [0, 1, 3]], [0, 1, 3]), [3])
        self.assertEqual(missing(4, [[0, 2], [1, 2]], [2]), [])
        self.assertEqual(missing(6, all_sets(6)[:-1], [0, 1, 2, 3, 4, 5]), [0, 1, 2, 3, 4, 5])
        self.assertIsNone(missing(4, [[0], [1, 2]], [2]))

    def test_missing_takes_the_fewer_things_ahead_of_the_lesser(self):
        self.assertEqual(missing(3, [[], [0], [1], [0, 2], [1, 2], [0, 1, 2]], [0, 1, 2]), [2])

    def test_as_the_document_says(self):
        for many, family in small_and_mixed():
            whole = []
            for things in all_sets(many):
                expected = first_missing(family, things)
                self.assertEqual(missing(many, family, things), expected, (many, family, things))
                self.assertIs(picks(many, family, things), expected is None, (many, family, things))
                if expected is None:
                    whole.append(things)
            self.assertEqual(picked(many, family), whole, (many, family))

    def test_each_part_of_a_picked_set_is_picked(self):
        for many, family in small_and_mixed():
            found = picked(many, family)
            for things in found:
                self.assertEqual(left_on(many, family, things), sets_in_order(things))
                for part in sets_in_order(things):
                    self.assertIn(part, found)


class TheReach(unittest.TestCase):
    def test_ordinary(self):
        self.assertEqual(reach(3, [[0], [1], [2]]), 1)
        self.assertEqual(reach(3, [[0, 2], [0], [2], [1]]), 2)
        self.assertEqual(reach(4, [[0, 1, 2, 3], [3], []]), 1)

    def test_the_edges(self):
        for many in range(1, 7):
            self.assertIsNone(reach(many, []))
            self.assertEqual(reach(many, [[]]), 0)
            self.assertEqual(reach(many, [[many - 1]]), 0)
            self.assertEqual(reach(many, all_sets(many)), many)
            self.assertEqual(reach(many, all_sets(many)[1:]), many - 1)

    def test_it_is_the_most_things_of_a_picked_set(self):
        for many, family in small_and_mixed():
            sizes = [len(one) for one in all_sets(many) if first_missing(family, one) is None]
            self.assertEqual(reach(many, family), max(sizes) if sizes else None)

    def test_the_members_keep_to_the_bound(self):
        for many, family in small_and_mixed():
            if family:
                self.assertLessEqual(len(family), bound(many, reach(many, family)), (many, family))

    def test_the_bound_is_met(self):
        for many in range(1, 7):
            for most in range(many + 1):
                family = [one for one in all_sets(many) if len(one) <= most]
                self.assertEqual(reach(many, family), most)
                self.assertEqual(bound(many, most), len(family))


class TheBound(unittest.TestCase):
    def test_ordinary(self):
        self.assertEqual(bound(4, 2), 11)
        self.assertEqual(bound(6, 3), 42)
        self.assertEqual(bound(10, 1), 11)

    def test_at_nought(self):
        self.assertEqual(bound(0, 0), 1)
        self.assertEqual(bound(0, 60), 1)
        for many in range(61):
            self.assertEqual(bound(many, 0), 1)

    def test_at_more_than_there_are_things(self):
        self.assertEqual(bound(3, 4), 8)
        self.assertEqual(bound(6, 60), 64)
        self.assertEqual(bound(59, 60), 2 ** 59)
        self.assertEqual(bound(60, 60), 1152921504606846976)
        self.assertEqual(bound(60, 59), 1152921504606846975)

    def test_every_number_to_sixty_and_somewhat_beyond(self):
        for many in range(66):
            for most in range(66):
                expected = sum(comb(many, size) for size in range(most + 1))
                self.assertEqual(bound(many, most), expected, (many, most))


class Cubes(unittest.TestCase):
    def test_ordinary(self):
        family = [[3], [0, 3], [1, 3], [0, 1, 3], [2], [0, 2]]
        self.assertEqual(cube_at(4, family, [0, 1]), [3])
        self.assertEqual(cube_at(4, family, [0]), [2])
        self.assertIsNone(cube_at(4, family, [3]))
        self.assertIsNone(cube_at(4, family, [0, 1, 2]))
        self.assertEqual(cubes(4, family), [[], [0], [1], [0, 1]])

    def test_the_first_base_in_order(self):
        self.assertEqual(cube_at(4, [[1, 2, 3], [2, 3], [1, 3], [3]], [1]), [3])
        self.assertEqual(cube_at(4, [[0, 1], [0, 1, 3], [2], [2, 3]], [3]), [2])
        self.assertEqual(cube_at(4, [[1, 2], [1, 2, 3], [0, 2], [0, 2, 3]], [3]), [0, 2])
        self.assertEqual(cube_at(3, [[0, 2], [2], [0], []], [0]), [])

    def test_a_cube_of_no_things_is_the_first_member(self):
        self.assertEqual(cube_at(3, [[0, 1], [2], [1]], []), [1])
        self.assertEqual(cube_at(3, [[0, 1], []], []), [])
        self.assertEqual(cube_at(3, [[1, 2], [0, 1, 2], [0, 2]], []), [0, 2])
        self.assertIsNone(cube_at(3, [], []))

    def test_the_edges(self):
        for many in range(1, 7):
            self.assertEqual(cubes(many, []), [])
            self.assertEqual(cubes(many, [[]]), [[]])
            self.assertEqual(cubes(many, all_sets(many)), all_sets(many))
            self.assertEqual(cubes(many, all_sets(many)[1:]), all_sets(many)[:-1])
            for things in all_sets(many):
                self.assertIsNone(cube_at(many, [], things))
                self.assertEqual(cube_at(many, all_sets(many), things), [])

    def test_as_the_document_says(self):
        for many, family in small_and_mixed():
            had = []
            for things in all_sets(many):
                expected = first_base(many, family, things)
                self.assertEqual(cube_at(many, family, things), expected, (many, family, things))
                if expected is not None:
                    had.append(things)
            self.assertEqual(cubes(many, family), had, (many, family))


class PicksAndCubes(unittest.TestCase):
    def assert_point_nine(self, many, family):
        self.assertGreaterEqual(len(picked(many, family)), len(family), (many, family))
        self.assertLessEqual(len(cubes(many, family)), len(family), (many, family))
        rest = others(many, family)
        for things in all_sets(many):
            remaining = [thing for thing in range(many) if thing not in things]
            cube = cube_at(many, rest, remaining)
            self.assertIs(picks(many, family, things), cube is None, (many, family, things))
            self.assertEqual(missing(many, family, things), cube, (many, family, things))

    def test_over_all_families_of_few_things(self):
        for many in (1, 2, 3):
            for family in all_families(many):
                self.assert_point_nine(many, family)

    def test_over_mixed_families_of_more_things(self):
        for many, count in ((4, 300), (5, 60), (6, 20)):
            for family in mixed_families(many, count):
                self.assert_point_nine(many, family)
