"""Stage 1: words, and what [0.1], [0.4], [0.5] and [0.8] say of integers and names."""

import unittest

from pieceround.base import words
from pieceround.base.words import are_names, is_count, is_integer, is_name, new_names, nth_name
from pieceround.errors import InvalidCount, InvalidOperation
from tests.samples import (
    ALL_KINDS, HUNDRED, INTEGERS, LISTS, LONG_INTEGERS, NAME_TUPLES, NAMES, SIXTY, SIXTY_ONE, CallTest, all_but,
)


class PredicatesTest(CallTest):

    def judges(self, judge, right):
        """The function returns True for the values that are told, and False for all others of all kinds."""
        self.assertEqual(len(all_but(right)), len(ALL_KINDS) - len(right))
        for value in right:
            self.assertIs(judge(value), True, value)
        for value in all_but(right):
            self.assertIs(judge(value), False, value)

    def test_constants(self):
        self.assertEqual((words.MAX_LETTERS, words.MAX_FIGURES), (8, 60))

    def test_is_integer(self):
        self.judges(is_integer, INTEGERS)

    def test_is_count(self):
        self.judges(is_count, [value for value in INTEGERS if value >= 0])

    def test_is_name(self):
        self.judges(is_name, NAMES)

    def test_are_names(self):
        self.judges(are_names, NAME_TUPLES)

    def test_sixty_digits_and_sixty_one(self):
        for value in (SIXTY, -SIXTY):
            self.assertEqual(len(str(abs(value))), 60)
            self.assertIs(is_integer(value), True)
            self.assertIs(is_integer(value + 1 if value > 0 else value - 1), False)
        self.assertIs(is_count(SIXTY), True)
        self.assertIs(is_count(SIXTY_ONE), False)
        self.assertIs(is_count(-1), False)
        self.assertIs(is_count(0), True)

    def test_booleans_are_no_integers(self):
        for value in (True, False):
            self.assertIs(is_integer(value), False)
            self.assertIs(is_count(value), False)

    def test_names_have_one_to_eight_letters(self):
        for many in range(12):
            self.assertIs(is_name("q" * many), 1 <= many <= 8)
        for code in range(128):
            self.assertIs(is_name(chr(code)), 97 <= code <= 122)
            self.assertIs(is_name("a" + chr(code) + "z"), 97 <= code <= 122)

    def test_letters_beyond_a_to_z_make_no_name(self):
        for letter in ("\xe4", "\xdf", "\u0430", "\uff41"):
            self.assertIs(is_name(letter), False)


class NthNameTest(CallTest):

    def test_all_names_in_their_order(self):
        letters = "abcdefghijklmnopqrstuvwxyz"
        names = list(letters) + [first + last for first in letters for last in letters]
        self.assertEqual([nth_name(index) for index in range(702)], names)

    def test_edges(self):
        self.assertEqual([nth_name(index) for index in (0, 25, 26, 51, 52, 700, 701)],
                         ["a", "z", "aa", "az", "ba", "zy", "zz"])
        for index in (-1, 702, 703, SIXTY, SIXTY_ONE, -SIXTY_ONE, HUNDRED):
            self.refuses_count(index, nth_name, index)

    def test_other_kinds(self):
        for index in all_but(INTEGERS):
            self.refuses_count(index, nth_name, index)


class NewNamesTest(CallTest):

    def test_ordinary(self):
        self.assertEqual(new_names((), 0), ())
        self.assertEqual(new_names((), 3), ("a", "b", "c"))
        self.assertEqual(new_names(("a", "c"), 3), ("b", "d", "e"))
        self.assertEqual(new_names(("c", "a"), 1), ("b",))
        self.assertEqual(new_names(("b", "b", "b", "zz", "abcdefgh"), 3), ("a", "c", "d"))
        self.assertEqual(new_names(("a",), 0), ())
        self.assertEqual(new_names(("x", "y", "z", "aa"), 27)[-5:], ("w", "ab", "ac", "ad", "ae"))

    def test_most_names(self):
        first = tuple(nth_name(index) for index in range(200))
        self.assertEqual(new_names(first, 100), tuple(nth_name(index) for index in range(200, 300)))
        self.assertEqual(new_names(first[100:], 100), first[:100])
        self.assertEqual(new_names(("b",) * 200, 100), ("a",) + tuple(nth_name(index) for index in range(2, 101)))

    def test_names_are_refused(self):
        first = tuple(nth_name(index) for index in range(201))
        for names in (first, ("a",) * 201):
            self.refuses(InvalidOperation, new_names, names, 3)
        for names in all_but(NAME_TUPLES):
            self.refuses(InvalidOperation, new_names, names, 3)

    def test_many_is_refused(self):
        for many in (-1, 101, SIXTY, SIXTY_ONE, -SIXTY_ONE):
            self.refuses_count(many, new_names, ("a",), many)
        for many in all_but(INTEGERS):
            self.refuses_count(many, new_names, ("a",), many)

    def test_the_first_wrong_argument_is_told(self):
        for many in (-1, 101, True, None, "a", [], SIXTY_ONE):
            self.refuses(InvalidOperation, new_names, ["a"], many)
            self.refuses(InvalidOperation, new_names, ("a",) * 201, many)

    def test_arguments_stay(self):
        names = ["a", "b"]
        self.refuses(InvalidOperation, new_names, names, 1)
        self.assertEqual(names, ["a", "b"])
        self.assertEqual(new_names(("a",), 2), new_names(("a",), 2))


class RequireCountTest(CallTest):

    def test_bounds(self):
        for value in (2, 3, 4):
            self.assertIsNone(words.require_count(value, 2, 4))
        for value in [1, 5, -3, True, SIXTY_ONE] + LONG_INTEGERS + LISTS:
            self.refuses_count(value, words.require_count, value, 2, 4)
        self.refuses(InvalidCount, words.require_count, True, 0, 1)


if __name__ == "__main__":
    unittest.main()
