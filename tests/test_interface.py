"""answers(calls): the list handed in and the list given back."""

import unittest

from gamerecord.game import answers
from helper import as_bytes, back, begin, even, head, load, mark, move, moves, no, note, printed, resign, state
from helper import text_of_length, withdraw, yes

ALL_CALLS = [
    begin(9, 0), head("Event", "x"), *moves("a1", "--"), note("n"), mark(3), move(0, "a4b"), mark(3), back(0, 2), yes(1),
    even(0), no(1), even(1), withdraw(1), load('[Heaps "9"] a1! (a2 <a3>) *'), state(), printed(), resign(0), move(0, "x"),
]


def joined(calls):
    return [number for call in calls for number in call]


class Interface(unittest.TestCase):
    def test_how_many_and_these(self):
        self.assertEqual(answers([11]), [1, -3])
        self.assertEqual(answers([0, 1, 3, 11, 2, 0, 2, 97, 51]),
                         [1, 0, 10, 0, 0, 0, 0, 0, 0, 0, 0, 0, 3, 6, 0, 1, 1, 0, 0, 0])
        self.assertEqual(answers([0, 1, 3, 12]), [1, 0, 15, 0] + as_bytes('[Heaps "3"]\n*\n'))
        self.assertEqual(answers([0, 0, 1, 0, 0, 2, 5, 0, 3, 0, 13, 0]), [1, -1, 1, -1, 1, -1, 1, -3, 1, -2])

    def test_the_order_of_numbers_and_rows(self):
        text = as_bytes('[Heaps "5 6"]\n[A "BC"]\n*\n')
        self.assertEqual(answers([0, 2, 5, 6, 1, 1, 65, 2, 66, 67, 12]), [1, 0, 2, 0, 2, 1 + len(text), 0] + text)
        self.assertEqual(answers([0, 1, 5, 2, 0, 2, 97, 49, 5, 1, 1, 11])[-11:], [10, 0, 0, 1, 1, 1, 1, 1, 0, 0, 4])

    def test_whole_numbers_in_a_list(self):
        given = answers(joined(ALL_CALLS))
        self.assertIs(type(given), list)
        for number in given:
            self.assertIs(type(number), int)

    def test_the_list_handed_in_is_unchanged(self):
        calls = joined(ALL_CALLS)
        before = list(calls)
        answers(calls)
        self.assertEqual(calls, before)

    def test_the_same_list_again_answers_the_same(self):
        calls = joined(ALL_CALLS)
        first = answers(calls)
        answers(joined([load(text_of_length(8192)), even(0)]))
        self.assertEqual(answers(calls), first)
        self.assertEqual(answers([11, 12]), [1, -3, 1, -3])

    def test_what_is_given_back_is_the_callers_own(self):
        calls = joined(ALL_CALLS)
        first = answers(calls)
        kept = list(first)
        first.clear()
        self.assertEqual(answers(calls), kept)

    def test_long_lists(self):
        calls = [load(text_of_length(8192))] + [note("x" * 60)] * 98
        self.assertEqual(answers(joined(calls + [state()]))[-10:], [0, 0, 0, 0, 0, 0, 0, 0, 9, 9])


if __name__ == "__main__":
    unittest.main()
