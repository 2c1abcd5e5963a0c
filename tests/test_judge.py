"""judge (16): a text's record held against the game."""

import unittest

from helper import MOST, deep, judge, last, load, text_of_length
from test_load import H, NO_HEAPS, NOT_ALLOWED, RIGHT, RIGHT_HEAPS, WRONG, WRONG_HEAPS

RESULTS = ("*", "1-0", "0-1", "1/2")


class Judge(unittest.TestCase):
    def check(self, text, *found):
        with self.subTest(text=text[:60]):
            self.assertEqual(judge(text), list(found))


class NoRecord(Judge):
    def test_wrong_texts(self):
        for text, place in WRONG:
            self.check(H + text, -2)

    def test_wrong_texts_that_are_wrong_in_other_ways_too(self):
        for text in ("", "x", "a1", '[Heaps "01"]', '[Heaps "3"] a9', '[Heaps "3"] a3 * *', '[Heaps "3"] a3 (a1 *'):
            self.check(text, -2)

    def test_8192_bytes_and_8193(self):
        self.check(text_of_length(8192), 0, 0, 0, 0, 0, 0, 9, 9)
        self.check(text_of_length(8193), -2)

    def test_41_deep(self):
        self.check('[Heaps "99"]' + deep(40, ["<>"]) + "*", 0, 0, 1, 1, 0, 0, 98)
        self.check('[Heaps "99"]' + deep(41, ["<>"]) + "*", -2)


class Heaps(Judge):
    def test_right(self):
        for value, heaps in RIGHT_HEAPS.items():
            self.check(f'[Heaps "{value}"]*', 0, 0, 0, 0, 0, 0, *heaps)
            self.check(f'[A "x"][Heaps "{value}"][B ""]*', 0, 0, 0, 0, 0, 0, *heaps)

    def test_wrong(self):
        for value in WRONG_HEAPS:
            self.check(f'[Heaps "{value}"]*', 0, 1)

    def test_none(self):
        for text in NO_HEAPS:
            self.check(text, 0, 1)

    def test_bounds(self):
        self.check('[Heaps "1 1 1 1 1 1 1 1"]*', 0, 0, 0, 0, 0, 0, *[1] * 8)
        self.check('[Heaps "1 1 1 1 1 1 1 1 1"]*', 0, 1)
        self.check(f'[Heaps "{MOST}"]*', 0, 0, 0, 0, 0, 0, MOST)
        self.check(f'[Heaps "{MOST + 1}"]*', 0, 1)
        self.check('[Heaps "0 10"]*', 0, 0, 0, 0, 0, 0, 0, 10)
        self.check('[Heaps "0 010"]*', 0, 1)
        self.check('[Heaps "1 1"]*', 0, 0, 0, 0, 0, 0, 1, 1)
        self.check('[Heaps "1  1"]*', 0, 1)


class Moves(Judge):
    def test_the_first_that_is_not_allowed(self):
        for text, number in NOT_ALLOWED:
            self.check(H + text, 0, 2, number)

    def test_marks_notes_and_numbers_do_not_count(self):
        self.check(H + "{x} 1. a1! $2 $3 {y} 1... a9 *", 0, 2, 2)
        self.check(H + "{a9} 1. a1 ( {x} 1. a2 $1 1... a9 ) *", 0, 2, 3)

    def test_the_first_of_several(self):
        self.check(H + "a1 a9 a9 *", 0, 2, 2)
        self.check(H + "a1 (a10 a1) a9 *", 0, 2, 2)
        self.check(H + "a1 <a9> (a10) a9 *", 0, 2, 2)

    def test_one_far_behind(self):
        self.check('[Heaps "2000"]' + "a1 " * 2000 + "0-1", 0, 0, 2000, 0, 0, 0, 0)
        self.check('[Heaps "2000"]' + "a1 " * 2001 + "0-1", 0, 2, 2001)
        self.check('[Heaps "1"] a1' + "(a1)" * 1999 + "(a2) 1-0", 0, 2, 2001)

    def test_deep_lines(self):
        self.check('[Heaps "40"]' + deep(39, ["<>"]) + "*", 0, 0, 1, 1, 0, 0, 39)
        self.check('[Heaps "40"]' + deep(40, ["<>"]) + "*", 0, 2, 41)
        self.check('[Heaps "1"]' + deep(40, ["()"]) + "1-0", 0, 0, 1, 1, 0, 0, 0)


class Result(Judge):
    def test_a_game_that_is_over(self):
        for items, right, found in (("a9 ", "1-0", [1, 1, 0, 0, 0, 0]), ("a1 a8 ", "0-1", [2, 0, 0, 0, 0, 0]),
                                    ("-- a8b b8 a1 ", "0-1", [4, 0, 1, 0, 0, 0]), ("a9 (a1) {x} ", "1-0", [1, 1, 0, 0, 0, 0]),
                                    ("<a1> a9 ", "1-0", [1, 1, 0, 0, 0, 0])):
            for result in RESULTS:
                if result == right:
                    self.check(H + items + result, 0, 0, *found)
                else:
                    self.check(H + items + result, 0, 3)

    def test_a_game_that_is_not_over(self):
        for result in RESULTS:
            self.check(H + result, 0, 0, 0, 0, 0, 0, 9, 0)
            self.check(H + "a1 " + result, 0, 0, 1, 1, 0, 0, 8, 0)
            # A line beside the main one ends it: that doesn't matter.
            self.check(H + "a1 (a9) <a8> " + result, 0, 0, 1, 1, 0, 0, 8, 0)
            self.check(H + "<a9> " + result, 0, 0, 0, 0, 0, 0, 9, 0)

    def test_a_game_that_is_over_at_the_beginning(self):
        for result in RESULTS:
            self.check('[Heaps "0"]' + result, 0, 0, 0, 0, 0, 0, 0)
            self.check('[Heaps "0 0 0"] {x} ' + result, 0, 0, 0, 0, 0, 0, 0, 0, 0)
            self.check('[Heaps "0"] a1 ' + result, 0, 2, 1)
            self.check('[Heaps "0"] -- ' + result, 0, 2, 1)
            self.check('[Heaps "0"] <--> ' + result, 0, 2, 1)


class Several(Judge):
    """Where several things are wrong."""

    def test_no_heaps_goes_first(self):
        self.check("a1 -- -- -- *", 0, 1)
        self.check('[Heaps "01"] a1 a1 *', 0, 1)
        self.check('[Heaps ""] i1 *', -2)

    def test_moves_go_ahead_of_the_result(self):
        self.check(H + "a9 <a1> *", 0, 2, 2)
        self.check(H + "a9 (b1) 0-1", 0, 2, 2)
        self.check(H + "a1 (a10) a8 *", 0, 2, 2)
        self.check(H + "a9 (a8) 0-1", 0, 3)


class Row(Judge):
    def test_of_the_main_lines_end(self):
        self.check(H + "a2b (a1) -- <a3> a2 *", 0, 0, 3, 1, 0, 1, 5, 2)
        self.check(H + "-- -- a1 *", 0, 0, 3, 1, 1, 1, 8, 0)
        self.check(H + "<-- --> a1 (--) *", 0, 0, 1, 1, 0, 0, 8, 0)

    def test_as_load_answers(self):
        for text in RIGHT:
            self.assertEqual(judge(H + text), [0] + last(load(H + text)))

    def test_the_length_of_the_one_text_does_not_matter(self):
        self.check('[Heaps "3000"]' + "a1 " * 2500 + "*", 0, 0, 2500, 0, 0, 0, 500)


if __name__ == "__main__":
    unittest.main()
