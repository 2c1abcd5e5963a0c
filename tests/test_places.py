"""places (19): how many different positions and how many moves there are."""

import unittest

from helper import deep, places, text_of_length
from test_load import H, NO_HEAPS, NOT_ALLOWED, WRONG, WRONG_HEAPS


class Places(unittest.TestCase):
    def check(self, text, *found):
        with self.subTest(text=text[:60]):
            self.assertEqual(places(text), list(found))


class Counts(Places):
    def test_without_a_move(self):
        for result in ("*", "1-0", "0-1", "1/2"):
            self.check('[Heaps "9"]' + result, 0, 1, 0)
            self.check('[Heaps "0 0"] {x} ' + result, 0, 1, 0)

    def test_the_main_line(self):
        self.check(H + "a1 *", 0, 2, 1)
        self.check(H + "a1! $3 {x} a1 a7 1-0", 0, 4, 3)

    def test_lines_beside_it(self):
        self.check(H + "a1 (a2 <a3>) *", 0, 4, 3)
        self.check(H + "<a1> a2 *", 0, 3, 2)

    def test_the_same_again(self):
        self.check(H + "a1 (a1) *", 0, 2, 2)
        self.check(H + "<a1> a1 *", 0, 2, 2)
        self.check(H + "a1 <a1> a1 *", 0, 3, 3)
        self.check(H + "a1 (a1 <a2 (a3)>) <a3> *", 0, 4, 5)
        self.check('[Heaps "2 2"] a1 (b1 a1) b1 *', 0, 4, 4)

    def test_the_ply_does_not_count(self):
        # Heaps of 6 with side 1 to move, behind one move and behind three.
        self.check('[Heaps "9"] a3 (a1 a1 a1) *', 0, 4, 4)

    def test_the_side_to_move_counts(self):
        # Heaps of 7 behind one move and behind two.
        self.check('[Heaps "9"] a2 (a1 a1) *', 0, 4, 3)

    def test_who_has_passed_counts(self):
        self.check('[Heaps "9"] -- -- *', 0, 3, 2)
        # Heaps of 8 with side 1 to move, where none and where both have passed.
        self.check('[Heaps "9"] a1 (-- -- a1) *', 0, 5, 4)
        # Heaps of 8 with side 0 to move, where side 1 and where side 0 has passed.
        self.check('[Heaps "9"] -- (a1 --) a1 *', 0, 5, 4)
        self.check('[Heaps "9"] -- a1 (a1) *', 0, 3, 3)
        self.check('[Heaps "1 0"] -- (-- -- <a1>) *', 0, 4, 4)

    def test_which_heap_is_which_counts(self):
        self.check('[Heaps "4 0"] a1b (a3b) *', 0, 3, 2)
        self.check('[Heaps "4 0"] a2b (a2b) *', 0, 2, 2)
        self.check('[Heaps "1 1 1"] a1 (b1) (c1) *', 0, 4, 3)

    def test_the_result_does_not_matter(self):
        for result in ("*", "1-0", "0-1", "1/2"):
            self.check(H + "a9 " + result, 0, 2, 1)

    def test_many(self):
        self.check('[Heaps "1"] a1' + "(a1)" * 1999 + " 1-0", 0, 2, 2000)
        self.check('[Heaps "2000"]' + "a1 " * 2000 + "0-1", 0, 2001, 2000)
        self.check('[Heaps "99"]' + deep(40, ["<>"]) + "*", 0, 42, 41)
        self.check('[Heaps "99"]' + deep(40, ["()"]) + "*", 0, 2, 41)
        self.check(text_of_length(8192, items="1. a1"), 0, 2, 1)


class Refused(Places):
    def test_no_record(self):
        for text, place in WRONG:
            self.check(H + text, -2)
        self.check(text_of_length(8193), -2)

    def test_no_heaps(self):
        for text in NO_HEAPS + [f'[Heaps "{value}"]*' for value in WRONG_HEAPS]:
            self.check(text, -6)

    def test_a_move_that_is_not_allowed(self):
        for text, number in NOT_ALLOWED:
            self.check(H + text, -6)

    def test_no_record_goes_ahead_of_the_rules(self):
        self.check(H + "a10", -2)
        self.check("a1 i1 *", -2)


if __name__ == "__main__":
    unittest.main()
