"""Point 13: how a family is written, and that what is written is read and no other text."""

import unittest
from itertools import product

from pickhouse.errors import NoNote
from pickhouse.families import ordered
from pickhouse.notes import read, shown
from tests.helper import all_families, all_sets, small_and_mixed

SIGNS = "\t\n" + "".join(chr(number) for number in range(ord(" "), ord("~") + 1) if chr(number) != "%")
NEAR_SIGNS = "\t\n -+0123_t"

NOTES = [
    (1, [], "things 1"),
    (1, [[]], "things 1\n-"),
    (1, [[0]], "things 1\n0"),
    (1, [[0], []], "things 1\n-\n0"),
    (2, [[0, 1], [1], []], "things 2\n-\n1\n0 1"),
    (3, [[0, 2], [0, 1], [2], []], "things 3\n-\n2\n0 1\n0 2"),
    (4, [[0, 1, 2], [3], [1, 3], [0]], "things 4\n0\n3\n1 3\n0 1 2"),
    (6, [], "things 6"),
    (6, [[]], "things 6\n-"),
    (6, [[0, 1, 2, 3, 4, 5], [5], [0, 5]], "things 6\n5\n0 5\n0 1 2 3 4 5"),
]

NO_HEADS = [
    "", "\n", " ", "-", "0", "things", "things ", "things\n3", "thing 3", "Things 3", "THINGS 3", "things 3 things 3",
    "things 0", "things 7", "things 10", "things 33", "things -1", "things 01", "things 03", "things +3", "things 3.",
    "things 3_", "things x", "things three", "things 3 4", "\nthings 3", " things 3", "things  3", "things 3 ",
    "things3", "things\t3", "\tthings 3", "things 3\t", "things " + "3" * 5000, "things " + "0" * 5000 + "3",
    "things 3" + " " * 5000,
]

# Each written behind the line of three things, which they spoil whatever else is there.
NO_LINES = [
    "", "\n", " ", "\t", "-\n", "0 1\n", "\n-", "-\n\n0", " \n0", "- ", " -", "--", "- -", "-\t", "- 0", "0 -", "-0",
    "_", "0 1 ", " 0 1", "0  1", "01", "0\t1", "0,1", "0 01", "00", "+0", "-1", "0 +1", "0_1", "a", "[0]", "[]",
    "0 0", "0 1 1", "1 0", "0 2 1", "3", "0 3", "9", "10", "0 1 2 3",
    "0\n-", "1\n0", "0 1\n2", "0 2\n0 1", "1 2\n0 2", "-\n-", "0\n0", "0 1\n0 1", "-\n0\n-", "0\n1\n0",
    "things 3", "-\nthings 3", "1" * 5000, "0 " * 5000, "\n" * 5000, "0" + "\n0" * 5000,
]

NO_NOTES = NO_HEADS + [head + "\n-" for head in NO_HEADS] + ["things 3\n" + lines for lines in NO_LINES] + [
    "-\nthings 3", "0 1\nthings 3", "things 1\n1", "things 6\n6", "things 6\n0 6", "things 7\n6",
]


def meant(text):
    """The number and the family that this text is written for, straight from the words of point 13, or None."""
    head, *lines = text.split("\n")
    if head not in ["things 1", "things 2", "things 3", "things 4", "things 5", "things 6"]:
        return None
    many = int(head[-1])
    written = [" ".join(map(str, one)) or "-" for one in all_sets(many)]
    if not all(line in written for line in lines):
        return None
    places = [written.index(line) for line in lines]
    if places != sorted(set(places)):
        return None
    return many, [all_sets(many)[place] for place in places]


def one_sign_off(text, signs):
    for place in range(len(text) + 1):
        yield text[:place] + text[place + 1:]
        for sign in signs:
            yield text[:place] + sign + text[place:]
            yield text[:place] + sign + text[place + 1:]


class Shown(unittest.TestCase):
    def test_ordinary_and_the_edges(self):
        for many, family, text in NOTES:
            self.assertEqual(shown(many, family), text)
            self.assertEqual(shown(many, family[::-1]), text)

    def test_all_sets_of_the_things(self):
        self.assertEqual(shown(2, all_sets(2)[::-1]), "things 2\n-\n0\n1\n0 1")
        self.assertEqual(shown(3, all_sets(3)[::-1]), "things 3\n-\n0\n1\n2\n0 1\n0 2\n1 2\n0 1 2")
        lines = shown(6, all_sets(6)[::-1]).split("\n")
        self.assertEqual(len(lines), 65)
        self.assertEqual(lines[:3] + lines[-1:], ["things 6", "-", "0", "0 1 2 3 4 5"])

    def test_as_the_document_says(self):
        for many, family in small_and_mixed():
            self.assertEqual(meant(shown(many, family)), (many, ordered(many, family)))


class Read(unittest.TestCase):
    def assert_read_as_meant(self, text):
        try:
            answer = read(text)
        except NoNote:
            answer = None
        self.assertEqual(answer, meant(text), repr(text[:200]))

    def test_ordinary_and_the_edges(self):
        for many, family, text in NOTES:
            self.assertEqual(read(text), (many, ordered(many, family)))

    def test_what_is_written_is_read(self):
        for many, family in small_and_mixed():
            self.assertEqual(read(shown(many, family)), (many, ordered(many, family)))

    def test_what_is_read_is_written_so(self):
        for many, family in small_and_mixed():
            text = shown(many, family)
            self.assertEqual(shown(*read(text)), text)

    def test_every_other_text_is_refused(self):
        for text in NO_NOTES:
            with self.subTest(text=text[:200]):
                with self.assertRaises(ValueError) as caught:
                    read(text)
                self.assertIs(type(caught.exception), NoNote)

    def test_texts_of_one_thing_sign_by_sign(self):
        for length in range(6):
            for signs in product("\n -01", repeat=length):
                self.assert_read_as_meant("things 1" + "".join(signs))

    def test_texts_one_sign_off(self):
        for many, family, text in NOTES:
            for other in one_sign_off(text, SIGNS):
                self.assert_read_as_meant(other)

    def test_texts_of_two_things_one_sign_off(self):
        for family in all_families(2):
            for other in one_sign_off(shown(2, family), NEAR_SIGNS):
                self.assert_read_as_meant(other)

    def test_lines_in_any_order_and_number(self):
        for length in range(5):
            for lines in product(["-", "0", "1", "0 1", ""], repeat=length):
                self.assert_read_as_meant("\n".join(("things 2",) + lines))

    def test_two_lines_exchanged(self):
        for many in (2, 3, 4, 5, 6):
            lines = shown(many, all_sets(many)).split("\n")
            for place in range(len(lines) - 1):
                turned = lines[:place] + [lines[place + 1], lines[place]] + lines[place + 2:]
                self.assertRaises(NoNote, read, "\n".join(turned))
