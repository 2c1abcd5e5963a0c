"""walk (18): the position behind the k-th move."""

import unittest

from helper import FAR, MOST, deep, judge, text_of_length, walk
from test_load import H, NO_HEAPS, NOT_ALLOWED, RIGHT, RIGHT_HEAPS, WRONG, WRONG_HEAPS

LINES = H + "{x} 1. a1! $2 (a2b {y} b1) <-- <a3>> 1... a4 *"
LINES_ROWS = [
    [0, 0, 0, 0, 9, 0], [1, 1, 0, 0, 8, 0], [1, 1, 0, 0, 7, 2], [2, 0, 0, 0, 7, 1], [2, 0, 0, 1, 8, 0], [3, 1, 0, 1, 5, 0],
    [2, 0, 0, 0, 4, 0],
]


class Walk(unittest.TestCase):
    def check(self, k, text, *found):
        with self.subTest(k=k, text=text[:60]):
            self.assertEqual(walk(k, text), list(found))


class Positions(Walk):
    def test_in_the_order_in_which_they_are_written(self):
        for k, row in enumerate(LINES_ROWS):
            self.check(k, LINES, 0, *row)

    def test_one_more_than_there_are(self):
        self.check(7, LINES, -3)
        self.check(8, LINES, -3)
        self.check(MOST, LINES, -3)

    def test_0_is_the_beginning(self):
        for value, heaps in RIGHT_HEAPS.items():
            self.check(0, f'[Heaps "{value}"]*', 0, 0, 0, 0, 0, *heaps)
            self.check(1, f'[Heaps "{value}"]*', -3)
            self.check(0, f'[A ""][Heaps "{value}"] {{x}} <--> *', 0, 0, 0, 0, 0, *heaps)

    def test_where_it_is_over_at_the_beginning(self):
        for result in ("*", "1-0", "0-1", "1/2"):
            self.check(0, '[Heaps "0 0"]' + result, 0, 0, 0, 0, 0, 0, 0)
            self.check(1, '[Heaps "0 0"]' + result, -3)

    def test_main_line(self):
        text = H + "-- -- a8b b8 a1 1-0"
        rows = [[0, 0, 0, 0, 9, 0], [1, 1, 1, 0, 9, 0], [2, 0, 1, 1, 9, 0], [3, 1, 1, 1, 1, 8], [4, 0, 1, 1, 1, 0],
                [5, 1, 1, 1, 0, 0]]
        for k, row in enumerate(rows):
            self.check(k, text, 0, *row)
        self.check(6, text, -3)

    def test_a_taken_back_line_ahead_of_all_moves(self):
        self.check(1, H + "<a2> a3 *", 0, 1, 1, 0, 0, 7, 0)
        self.check(2, H + "<a2> a3 *", 0, 1, 1, 0, 0, 6, 0)
        self.check(2, H + "<a2 a2> a3 *", 0, 2, 0, 0, 0, 5, 0)
        self.check(3, H + "<a2 a2> a3 *", 0, 1, 1, 0, 0, 6, 0)

    def test_the_last_move_of_the_main_line_as_judge_tells_it(self):
        for text in RIGHT:
            found = judge(H + text)
            rows = []
            while walk(len(rows), H + text)[0] == 0:
                rows.append(walk(len(rows), H + text))
            self.assertIn([0] + found[2:], rows, text)

    def test_the_result_does_not_matter(self):
        for result in ("*", "1-0", "0-1", "1/2"):
            self.check(1, H + "a9 " + result, 0, 1, 1, 0, 0, 0, 0)

    def test_deep_lines(self):
        for count in (1, 40):
            text = '[Heaps "99"]' + deep(count, ["<>"]) + "a1 *"
            self.check(count + 1, text, 0, count + 1, (count + 1) % 2, 0, 0, 98 - count)
            self.check(count + 2, text, 0, 2, 0, 0, 0, 97)
            self.check(count + 3, text, -3)

    def test_many_moves(self):
        text = '[Heaps "2000"]' + "a1 " * 2000 + "0-1"
        for k in (0, 1, 999, 1999, 2000):
            self.check(k, text, 0, k, k % 2, 0, 0, 2000 - k)
        self.check(2001, text, -3)


class Refused(Walk):
    def test_k(self):
        for k in (-1, -2, MOST + 1, FAR, -FAR):
            self.check(k, LINES, -1)
        self.check(MOST, LINES, -3)

    def test_k_goes_first(self):
        for k in (-1, MOST + 1):
            self.check(k, "x", -1)
            self.check(k, "", -1)
            self.check(k, text_of_length(8193), -1)
            self.check(k, "*", -1)
            self.check(k, H + "a10 *", -1)

    def test_no_record(self):
        for text, place in WRONG:
            self.check(0, H + text, -2)
            self.check(MOST, H + text, -2)
        self.check(0, text_of_length(8192), 0, 0, 0, 0, 0, 9, 9)
        self.check(0, text_of_length(8193), -2)

    def test_no_heaps(self):
        for text in NO_HEAPS + [f'[Heaps "{value}"]*' for value in WRONG_HEAPS]:
            for k in (0, 1, MOST):
                self.check(k, text, -6)

    def test_a_move_that_is_not_allowed_before_or_behind(self):
        for text, number in NOT_ALLOWED:
            for k in (0, 1, number - 1, number, number + 1, 99, MOST):
                self.check(k, H + text, -6)

    def test_no_record_goes_ahead_of_the_rules(self):
        self.check(0, H + "a10", -2)
        self.check(5, "a1 i1 *", -2)


if __name__ == "__main__":
    unittest.main()
