"""All functions of the package where they speak of the same text."""

import random
import unittest

from helper import form, judge, last, load, main, places, printed, read, text_given, text_of_length, walk
from test_load import H, NO_HEAPS, NOT_ALLOWED, RIGHT, WRONG, WRONG_HEAPS
from test_model import random_text

LONG = [text_of_length(8192), text_of_length(8192)[:-1], text_of_length(8193), text_of_length(8193)[:-1],
        '[Heaps "3000"]' + "a1 " * 2500 + "*", '[Heaps "9"]' + "a1 " * 2500 + "*", "a1 " * 2500 + "*"]
TEXTS = (
    [H + text for text in RIGHT] + [H + text for text, place in WRONG] + [H + text for text, number in NOT_ALLOWED]
    + NO_HEAPS + [f'[Heaps "{value}"] a1 *' for value in WRONG_HEAPS] + LONG
    + [f'[Heaps "{heaps}"] {items} {result}' for heaps in ("0", "0 0", "3") for items in ("", "a3", "<a3>", "{x}")
       for result in ("*", "1-0", "0-1", "1/2")]
    + [random_text(random.Random(seed)) for seed in range(10000, 11000)])


def all_rows(text):
    """The game rows of walk, one behind another, up to its refusal."""
    rows = []
    answer = walk(0, text)
    while answer[0] == 0:
        rows.append(answer[1:])
        answer = walk(len(rows), text)
    return rows, answer


class Agreement(unittest.TestCase):
    def each(self, is_due, check):
        """Checks the texts for which this holds; there must be some."""
        found = [text for text in TEXTS if is_due(text)]
        self.assertGreater(len(found), 10)
        for text in found:
            with self.subTest(text=text[:80]):
                check(text)

    def test_texts_that_load_takes(self):
        def check(text):
            row = last(load(text))[1:]
            self.assertEqual(read(text)[0], 1)
            self.assertEqual(read(text)[3], row[0])
            self.assertEqual(form(text), last(load(text), printed()))
            self.assertEqual(judge(text), [0, 0] + row)
            self.assertEqual(main(text)[0], 0)
            self.assertEqual(walk(0, text)[0], 0)
            self.assertEqual(places(text)[0], 0)
        self.each(lambda text: last(load(text))[0] == 0, check)

    def test_texts_that_load_does_not_take(self):
        def check(text):
            over = walk(0, text)[0] == 0 and not any(walk(0, text)[5:])
            due = {-2: read(text)[0] == 0, -4: form(text) == [-4], -6: judge(text)[1:2] != [0] or over}
            self.assertEqual(last(load(text)), [max(number for number in due if due[number])])
        self.each(lambda text: last(load(text))[0] != 0, check)

    def test_texts_that_are_no_records(self):
        def check(text):
            for answer in (form(text), judge(text), main(text), walk(0, text), places(text), last(load(text))):
                self.assertEqual(answer, [-2])
        self.each(lambda text: read(text)[0] == 0, check)

    def test_texts_that_are_records(self):
        def check(text):
            for answer in (form(text), judge(text), main(text), walk(0, text), places(text), last(load(text))):
                self.assertIn(answer[0], (0, -4, -6))
        self.each(lambda text: read(text)[0] == 1, check)

    def test_moves_that_are_not_allowed(self):
        def check(text):
            self.assertEqual(walk(0, text), [-6])
            self.assertEqual(places(text), [-6])
        self.each(lambda text: judge(text)[1:2] in ([1], [2]), check)

    def test_moves_that_are_all_allowed(self):
        def check(text):
            rows, refusal = all_rows(text)
            self.assertEqual(refusal, [-3])
            self.assertEqual(places(text), [0, len({tuple(row[1:]) for row in rows}), len(rows) - 1])
            if judge(text)[1] == 0:
                self.assertIn(judge(text)[2:], rows)
        self.each(lambda text: judge(text)[1:2] in ([0], [3]) and len(text) < 1000, check)

    def test_the_one_text_says_the_same(self):
        def check(text):
            once = text_given(form(text))
            for function in (read, form, judge, main, places):
                self.assertEqual(function(once), function(text))
            for k in (0, 1, 3, 9):
                self.assertEqual(walk(k, once), walk(k, text))
            self.assertEqual(last(load(once)), last(load(text)))
        self.each(lambda text: form(text)[0] == 0, check)

    def test_the_main_line_alone(self):
        def check(text):
            alone = text_given(main(text))
            heads, result, moves = read(text)[1:4]
            self.assertEqual(read(alone), [1, heads, result, moves, moves, 0])
            self.assertEqual(form(alone), main(text))
            if judge(text)[1] != 2:
                self.assertEqual(judge(alone), judge(text))
        self.each(lambda text: main(text)[0] == 0, check)


if __name__ == "__main__":
    unittest.main()
