"""Point 12: the first things that tell a member, and that tell a family apart."""

import unittest

from pickhouse.telling import apart, teller
from tests.helper import all_sets, frozen, small_and_mixed


def same(one, other, things):
    return set(one) & set(things) == set(other) & set(things)


def first_teller(many, family, member):
    """Straight from the words of point 12."""
    for things in all_sets(many):
        if not any(same(one, member, things) for one in family if one != member):
            return things


def first_apart(many, family):
    """Straight from the words of point 12."""
    members = frozen(family)
    for things in all_sets(many):
        if not any(same(one, other, things) for one in members for other in members if one != other):
            return things


class TheTeller(unittest.TestCase):
    def test_ordinary(self):
        family = [[0, 2], [0, 1], [2], []]
        self.assertEqual(teller(3, family, [0, 2]), [0, 1])
        self.assertEqual(teller(3, family, [0, 1]), [1])
        self.assertEqual(teller(3, family, [2]), [0, 2])
        self.assertEqual(teller(3, family, []), [0, 2])

    def test_a_thing_that_it_alone_lacks_tells_it_too(self):
        self.assertEqual(teller(3, [[1], [0, 1], [0, 2]], [1]), [0])
        self.assertEqual(teller(3, [[0, 1], [0, 1, 2], [2]], [2]), [0])

    def test_the_first_in_order_of_several(self):
        self.assertEqual(teller(4, [[2, 3], [0, 1]], [0, 1]), [0])
        self.assertEqual(teller(4, [[3], [2, 3], [0, 1, 2, 3], []], [2, 3]), [0, 2])
        self.assertEqual(teller(4, [[], [1], [2], [3]], [3]), [3])
        self.assertEqual(teller(4, [[], [1], [2], [3]], []), [1, 2, 3])

    def test_the_only_member_is_told_by_no_things(self):
        for many in range(1, 7):
            for one in all_sets(many):
                self.assertEqual(teller(many, [one], one), [])

    def test_among_all_sets_it_takes_all_things(self):
        for many in range(1, 7):
            for one in all_sets(many):
                self.assertEqual(teller(many, all_sets(many)[::-1], one), list(range(many)))

    def test_of_one_thing(self):
        self.assertEqual(teller(1, [[]], []), [])
        self.assertEqual(teller(1, [[0]], [0]), [])
        self.assertEqual(teller(1, [[0], []], []), [0])
        self.assertEqual(teller(1, [[0], []], [0]), [0])

    def test_as_the_document_says(self):
        for many, family in small_and_mixed():
            for member in family:
                expected = first_teller(many, family, member)
                self.assertEqual(teller(many, family, member), expected, (many, family, member))
                self.assertEqual(teller(many, family[::-1], member), expected, (many, family, member))


class Apart(unittest.TestCase):
    def test_ordinary(self):
        self.assertEqual(apart(3, [[0, 2], [0, 1], [2], []]), [0, 2])
        self.assertEqual(apart(3, [[0, 2], [0, 1]]), [1])
        self.assertEqual(apart(4, [[3], [2], [1], [0]]), [0, 1, 2])

    def test_the_first_in_order_of_several(self):
        self.assertEqual(apart(4, [[2, 3], [0, 1]]), [0])
        self.assertEqual(apart(4, [[0, 2, 3], [0, 1]]), [1])
        self.assertEqual(apart(4, [[0, 3], [1, 2, 3], [0, 1, 2], [2]]), [0, 1])
        self.assertEqual(apart(6, [[4], [5], []]), [4, 5])

    def test_no_member_and_one_member_take_no_things(self):
        for many in range(1, 7):
            self.assertEqual(apart(many, []), [])
            for one in all_sets(many):
                self.assertEqual(apart(many, [one]), [])

    def test_all_sets_take_all_things(self):
        for many in range(1, 7):
            self.assertEqual(apart(many, all_sets(many)[::-1]), list(range(many)))

    def test_of_one_thing(self):
        self.assertEqual(apart(1, [[0], []]), [0])

    def test_as_the_document_says(self):
        for many, family in small_and_mixed():
            expected = first_apart(many, family)
            self.assertEqual(apart(many, family), expected, (many, family))
            self.assertEqual(apart(many, family[::-1]), expected, (many, family))

    def test_fewer_things_than_members(self):
        for many, family in small_and_mixed():
            if family:
                self.assertLess(len(apart(many, family)), len(family), (many, family))

    def test_one_thing_fewer_than_members_may_be_needed(self):
        for many in range(1, 7):
            family = [[thing] for thing in range(many)] + [[]]
            self.assertEqual(apart(many, family), list(range(many)))
