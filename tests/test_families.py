"""Points 3, 4 and 5: the order, what is left on some things, the others, and flipped."""

import unittest

from pickhouse.families import flipped, left_on, ordered, others
from tests.helper import all_sets, frozen, in_order, small_and_mixed


class TheOrder(unittest.TestCase):
    def test_fewer_things_go_first(self):
        self.assertEqual(ordered(6, [[0, 1, 2], [5], [3, 4], []]), [[], [5], [3, 4], [0, 1, 2]])

    def test_of_as_many_the_lesser_thing_at_the_first_difference(self):
        self.assertEqual(
            ordered(6, [[1, 2], [0, 5], [1, 5], [0, 1], [4, 5], [0, 3]]),
            [[0, 1], [0, 3], [0, 5], [1, 2], [1, 5], [4, 5]],
        )
        self.assertEqual(ordered(6, [[1, 2, 3], [0, 4, 5], [0, 3, 5]]), [[0, 3, 5], [0, 4, 5], [1, 2, 3]])

    def test_all_sets_of_three_things(self):
        family = [[0, 1, 2], [1, 2], [2], [0, 2], [], [1], [0, 1], [0]]
        self.assertEqual(ordered(3, family), [[], [0], [1], [2], [0, 1], [0, 2], [1, 2], [0, 1, 2]])

    def test_the_edges(self):
        self.assertEqual(ordered(1, []), [])
        self.assertEqual(ordered(1, [[]]), [[]])
        self.assertEqual(ordered(1, [[0], []]), [[], [0]])
        self.assertEqual(ordered(6, all_sets(6)[::-1]), all_sets(6))

    def test_every_way_round(self):
        for many, family in small_and_mixed():
            expected = in_order(frozen(family))
            self.assertEqual(ordered(many, family), expected)
            self.assertEqual(ordered(many, family[::-1]), expected)


class LeftOnThings(unittest.TestCase):
    family = [[0, 1, 3], [1], [0, 1, 2], [3]]

    def test_on_no_things(self):
        self.assertEqual(left_on(4, self.family, []), [[]])
        self.assertEqual(left_on(4, [], []), [])

    def test_on_some_things_each_once_and_in_order(self):
        self.assertEqual(left_on(4, self.family, [0, 1]), [[], [1], [0, 1]])
        self.assertEqual(left_on(4, self.family, [2]), [[], [2]])
        self.assertEqual(left_on(4, self.family, [0, 3]), [[], [0], [3], [0, 3]])
        self.assertEqual(left_on(4, [[0, 1], [1, 2]], [1]), [[1]])

    def test_on_all_things(self):
        self.assertEqual(left_on(4, self.family, [0, 1, 2, 3]), [[1], [3], [0, 1, 2], [0, 1, 3]])

    def test_the_edges(self):
        self.assertEqual(left_on(6, [], [0, 5]), [])
        self.assertEqual(left_on(6, [[]], [0, 5]), [[]])
        self.assertEqual(left_on(6, all_sets(6), [1, 4]), [[], [1], [4], [1, 4]])

    def test_as_the_document_says(self):
        for many, family in small_and_mixed():
            for things in all_sets(many):
                expected = in_order({one & set(things) for one in frozen(family)})
                self.assertEqual(left_on(many, family, things), expected, (many, family, things))


class TheOthers(unittest.TestCase):
    def test_ordinary(self):
        self.assertEqual(others(2, [[1], []]), [[0], [0, 1]])
        self.assertEqual(others(3, [[1, 2], [0], [2]]), [[], [1], [0, 1], [0, 2], [0, 1, 2]])

    def test_of_none_and_of_all(self):
        for many in range(1, 7):
            self.assertEqual(others(many, []), all_sets(many))
            self.assertEqual(others(many, all_sets(many)), [])
            self.assertEqual(others(many, [[]]), all_sets(many)[1:])

    def test_as_the_document_says(self):
        for many, family in small_and_mixed():
            self.assertEqual(others(many, family), [one for one in all_sets(many) if one not in family])
            self.assertEqual(others(many, others(many, family)), ordered(many, family))


class Flipped(unittest.TestCase):
    family = [[0, 1], [2], []]

    def test_by_no_things(self):
        self.assertEqual(flipped(3, self.family, []), [[], [2], [0, 1]])

    def test_by_some_things(self):
        self.assertEqual(flipped(3, self.family, [0]), [[0], [1], [0, 2]])
        self.assertEqual(flipped(3, self.family, [1, 2]), [[1], [0, 2], [1, 2]])

    def test_by_all_things(self):
        self.assertEqual(flipped(3, self.family, [0, 1, 2]), [[2], [0, 1], [0, 1, 2]])

    def test_the_edges(self):
        self.assertEqual(flipped(6, [], [0, 5]), [])
        self.assertEqual(flipped(6, [[]], [0, 5]), [[0, 5]])
        self.assertEqual(flipped(1, [[0]], [0]), [[]])
        self.assertEqual(flipped(6, all_sets(6), [2, 3]), all_sets(6))

    def test_as_the_document_says_and_twice(self):
        for many, family in small_and_mixed():
            for things in all_sets(many):
                once = flipped(many, family, things)
                self.assertEqual(once, in_order({one ^ set(things) for one in frozen(family)}))
                self.assertEqual(flipped(many, once, things), ordered(many, family))
