"""What is handed in and what is given back: answers(calls), and the functions of a text alone."""

import inspect
import unittest

from gamerecord import texts
from gamerecord.game import answers
from helper import Untouched, as_bytes, back, begin, even, head, load, mark, move, moves, no, note, printed, resign, state
from helper import text_of_length, withdraw, yes

ALL_CALLS = [
    begin(9, 0), head("Event", "x"), *moves("a1", "--"), note("n"), mark(3), move(0, "a4b"), mark(3), back(0, 2), yes(1),
    even(0), no(1), even(1), withdraw(1), load('[Heaps "9"] a1! (a2 <a3>) *'), state(), printed(), resign(0), move(0, "x"),
]


# Each function of a text alone, with what stands before the text.
OF_TEXTS = [(texts.read, []), (texts.form, []), (texts.judge, []), (texts.main, []),
            (texts.walk, [0]), (texts.walk, [2]), (texts.walk, [-1]), (texts.places, [])]

# A record, one that isn't legal, one whose one text is too long, and texts that are none.
TEXTS = ['[Heaps "9"] a1! (a2 <a3>) {n} a4 $7 *', "c1 $1 *", "a1 " * 2500 + "*", "x", "", "*" * 10000]


def joined(calls):
    return [number for call in calls for number in call]


class Interface(unittest.TestCase):
    def test_how_many_and_these(self):
        self.assertEqual(answers([11]), [1, -3])
        self.assertEqual(answers([0, 1, 3, 11, 2, 0, 2, 97, 51]),
                         [1, 0, 10, 0, 0, 0, 0, 0, 0, 0, 0, 0, 3, 6, 0, 1, 1, 0, 0, 0])
        self.assertEqual(answers([0, 1, 3, 12]), [1, 0, 15, 0] + as_bytes('[Heaps "3"]\n*\n'))
        self.assertEqual(answers([0, 0, 1, 0, 0, 2, 5, 0, 3, 0, 13, 0]), [1, -1, 1, -1, 1, -1, 1, -3, 1, -2])

    def test_the_order_of_numbers_and_rows(self):
        text = as_bytes('[Heaps "5 6"]\n[A "BC"]\n*\n')
        self.assertEqual(answers([0, 2, 5, 6, 1, 1, 65, 2, 66, 67, 12]), [1, 0, 2, 0, 2, 1 + len(text), 0] + text)
        self.assertEqual(answers([0, 1, 5, 2, 0, 2, 97, 49, 5, 1, 1, 11])[-11:], [10, 0, 0, 1, 1, 1, 1, 1, 0, 0, 4])

    def test_whole_numbers_in_a_list(self):
        given = answers(joined(ALL_CALLS))
        self.assertIs(type(given), list)
        for number in given:
            self.assertIs(type(number), int)

    def test_the_list_handed_in_is_unchanged(self):
        calls = joined(ALL_CALLS)
        before = list(calls)
        given = answers(calls)
        self.assertEqual(calls, before)
        self.assertEqual(answers(Untouched(calls)), given)

    def test_the_same_list_again_answers_the_same(self):
        calls = joined(ALL_CALLS)
        first = answers(calls)
        answers(joined([load(text_of_length(8192)), even(0)]))
        self.assertEqual(answers(calls), first)
        self.assertEqual(answers([11, 12]), [1, -3, 1, -3])

    def test_what_is_given_back_is_the_callers_own(self):
        calls = joined(ALL_CALLS)
        first = answers(calls)
        kept = list(first)
        first.clear()
        self.assertEqual(answers(calls), kept)

    def test_long_lists(self):
        calls = [load(text_of_length(8192))] + [note("x" * 60)] * 98
        self.assertEqual(answers(joined(calls + [state()]))[-10:], [0, 0, 0, 0, 0, 0, 0, 0, 9, 9])


class Texts(unittest.TestCase):
    def test_names_of_what_is_handed_in(self):
        for function, before in OF_TEXTS:
            names = list(inspect.signature(function).parameters)
            self.assertEqual(names, ["k"] * len(before) + ["text"])

    def test_whole_numbers_in_a_list(self):
        for function, before in OF_TEXTS:
            for text in TEXTS:
                given = function(*before, as_bytes(text))
                self.assertIs(type(given), list)
                self.assertEqual({type(number) for number in given}, {int})

    def test_the_text_handed_in_is_unchanged(self):
        for function, before in OF_TEXTS:
            for text in TEXTS:
                handed = as_bytes(text)
                given = function(*before, handed)
                self.assertEqual(handed, as_bytes(text))
                self.assertEqual(function(*before, Untouched(handed)), given)

    def test_the_same_text_again_answers_the_same(self):
        for function, before in OF_TEXTS:
            first = [function(*before, as_bytes(text)) for text in TEXTS]
            kept = [list(given) for given in first]
            answers(joined(ALL_CALLS))
            for given in first:
                given.clear()
            self.assertEqual([function(*before, as_bytes(text)) for text in reversed(TEXTS)], kept[::-1])

    def test_no_game_is_needed_or_changed(self):
        calls = joined(ALL_CALLS)
        before = answers(calls)
        for function, given in OF_TEXTS:
            function(*given, as_bytes(TEXTS[0]))
        self.assertEqual(answers(calls), before)
        self.assertEqual(answers([11]), [1, -3])


if __name__ == "__main__":
    unittest.main()
