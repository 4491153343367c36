import unittest

from pickhouse import errors
from pickhouse.errors import NoFamily, NoMember, NoNote, NoSet, NoThing, PickError


class TheRefusals(unittest.TestCase):
    def test_the_first_stands_straight_under_value_error(self):
        self.assertEqual(PickError.__bases__, (ValueError,))

    def test_each_other_stands_straight_under_the_first(self):
        for one in (NoFamily, NoSet, NoThing, NoMember, NoNote):
            self.assertEqual(one.__bases__, (PickError,), one)

    def test_there_are_six(self):
        names = [name for name in vars(errors) if not name.startswith("__")]
        self.assertEqual(sorted(names), ["NoFamily", "NoMember", "NoNote", "NoSet", "NoThing", "PickError"])
