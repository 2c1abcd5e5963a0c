"""move (2) and the game of heaps."""

import unittest

from helper import FAR, MOST, CallCase, back, begin, even, last, load, mark, move, moves, note, resign, state
from helper import text_of_length, yes


class Take(CallCase):
    def test_answers_and_record(self):
        self.check([0, 1, 1, 0, 0, 2, 4], begin(3, 4), move(0, "a1"))
        self.check([0, 2, 0, 0, 0, 2, 1], begin(3, 4), *moves("a1", "b3"))
        self.check_text('[Heaps "3 4"]\n1. a1 b3 *\n', begin(3, 4), *moves("a1", "b3"))

    def test_all_of_a_heap_and_one_more(self):
        self.check([0, 1, 1, 0, 0, 0, 4], begin(3, 4), move(0, "a3"))
        self.check_refused(-6, [begin(3, 4)], move(0, "a4"), move(0, "b5"), move(0, "a1000000000"))

    def test_from_an_empty_heap(self):
        self.check_refused(-6, [begin(0, 4)], move(0, "a1"))

    def test_from_no_heap(self):
        self.check_refused(-6, [begin(3, 4)], move(0, "c1"), move(0, "h1"))
        self.check([0, 1, 1, 0, 0, 1, 1, 1, 1, 1, 1, 1, 0], begin(*([1] * 8)), move(0, "h1"))

    def test_most(self):
        self.check([0, 1, 1, 0, 0, 0, 1], begin(MOST, 1), move(0, "a1000000000"))
        self.check([-2], begin(MOST, 1), move(0, "a1000000001"))


class Split(CallCase):
    def test_answers_and_record(self):
        self.check([0, 1, 1, 0, 0, 1, 2], begin(3, 0), move(0, "a2b"))
        self.check_text('[Heaps "3 0"]\n1. a2b *\n', begin(3, 0), move(0, "a2b"))
        self.check([0, 1, 1, 0, 0, 2, 1], begin(0, 3), move(0, "b2a"))

    def test_all_but_one_and_all(self):
        self.check([0, 1, 1, 0, 0, 1, 4], begin(5, 0), move(0, "a4b"))
        self.check_refused(-6, [begin(5, 0)], move(0, "a5b"), move(0, "a6b"))
        self.check_refused(-6, [begin(1, 0)], move(0, "a1b"))

    def test_to_a_heap_that_is_not_0(self):
        self.check_refused(-6, [begin(5, 1)], move(0, "a2b"))
        self.check_refused(-6, [begin(5, 1)], move(0, "a2a"))

    def test_without_a_heap(self):
        self.check_refused(-6, [begin(5, 0)], move(0, "a2c"), move(0, "c2a"), move(0, "c2d"), move(0, "b1a"))

    def test_a_heap_that_became_0(self):
        self.check([0, 3, 1, 0, 0, 3, 1, 2], begin(5, 1, 2), *moves("b1", "a1", "a1b"))


class Pass(CallCase):
    def test_each_side_has_one(self):
        self.check([0, 1, 1, 1, 0, 5], begin(5), move(0, "--"))
        self.check([0, 2, 0, 1, 1, 5], begin(5), *moves("--", "--"))
        self.check_text('[Heaps "5"]\n1. -- -- *\n', begin(5), *moves("--", "--"))
        self.check_refused(-6, [begin(5), *moves("--", "--")], move(0, "--"))
        self.check_refused(-6, [begin(5), *moves("--", "--", "a1")], move(1, "--"))

    def test_one_side_alone(self):
        self.check([0, 2, 0, 0, 1, 4], begin(5), *moves("a1", "--"))
        self.check([0, 4, 0, 0, 1, 2], begin(5), *moves("a1", "--", "a1", "a1"))
        self.check_refused(-6, [begin(5), *moves("a1", "--", "a1")], move(1, "--"))
        self.check([0, 3, 1, 1, 1, 4], begin(5), *moves("a1", "--", "--"))


class Over(CallCase):
    def test_side_0_wins(self):
        self.check([0, 1, 1, 0, 0, 0], begin(3), move(0, "a3"))
        self.check([0, 1, 0, 0, 0, 1, 1, 0, 0, 0], begin(3), move(0, "a3"), state())
        self.check_text('[Heaps "3"]\n1. a3 1-0\n', begin(3), move(0, "a3"))

    def test_side_1_wins(self):
        self.check([0, 2, 0, 0, 0, 2, 0, 0, 0, 0], begin(3), *moves("a1", "a2"), state())
        self.check_text('[Heaps "3"]\n1. a1 a2 0-1\n', begin(3), *moves("a1", "a2"))

    def test_one_empty_heap_of_two_is_not_over(self):
        self.check([0, 0, 0, 0, 0, 1, 1, 0, 0, 0, 1], begin(3, 1), move(0, "a3"), state())

    def test_no_more_moves(self):
        self.check_refused(-3, [begin(3), move(0, "a3")], move(1, "--"), move(0, "a1"), move(1, "a1"))


class Refusals(CallCase):
    def test_sides(self):
        self.check_refused(-1, [begin(3)], *[move(side, "a1") for side in (-1, 2, FAR, -FAR)])
        self.check_refused(-5, [begin(3)], move(1, "a1"))
        self.check_refused(-5, [begin(3), move(0, "a1")], move(0, "a1"))

    def test_no_move(self):
        wrong = ["", "a", "1", "a0", "a01", "a-1", "i1", "A1", "a1i", "a1A", "ab", "a1bc", "a1b2", "-", "---", "a1!", "--!",
                 "a1??", "a1b!?", " a1", "a1 ", "a1\n", "1.", "1. a1", "*", "1-0", "$1", "(", "{}", "a1000000001",
                 "a9999999999", "a" + "9" * 999, "a1000000001b", "a0b", "a01b", [97, 200], [97, 9, 49], [0], [97, 49, 0],
                 [97, 37, 49], "a1.", "a1-", "a+1", "a1_0"]
        self.check_refused(-2, [begin(3)], *[move(0, text) for text in wrong])

    def test_words_of_heaps_that_are_not_there_are_moves(self):
        for letter in "bcdefgh":
            self.check_refused(-6, [begin(3)], move(0, letter + "1"), move(0, "a1" + letter))

    def test_no_game_and_not_going_on(self):
        self.check([-3], move(0, "a1"))
        self.check_refused(-3, [begin(3), resign(0)], move(0, "a1"))
        self.check_refused(-3, [load('[Heaps "3"] a1 1/2')], move(1, "a1"))

    def test_while_something_is_asked(self):
        self.check_refused(-3, [begin(3), even(0)], move(0, "a1"))
        self.check_refused(-3, [begin(3), move(0, "a1"), back(0, 1)], move(1, "a1"))

    def test_nearest_to_0_of_several(self):
        self.check([-1], move(2, "x"))
        self.check([-2], move(1, "x"))
        self.check([-1], move(2, "a1"))
        self.check_refused(-1, [begin(3), even(0)], move(2, "a9"), move(-1, "x"))
        self.check_refused(-2, [begin(3), even(0)], move(0, "x"), move(1, "a1!"))
        self.check_refused(-3, [begin(3), even(0)], move(1, "a9"), move(0, "a9"), move(1, "a1"))
        self.check_refused(-5, [begin(3)], move(1, "a9"), move(1, "b1"))


class Fitting(CallCase):
    def test_the_edge(self):
        # "1. a1" and a blank are 6 bytes.
        self.check([0, 1, 1, 0, 0, 8, 9], load(text_of_length(8186)), move(0, "a1"))
        answer = last(load(text_of_length(8186)), move(0, "a1"), [12])
        self.assertEqual(len(answer), 1 + 8192)
        self.check_refused(-4, [load(text_of_length(8187))], move(0, "a1"))
        self.check_refused(-4, [load(text_of_length(8192))], move(0, "a1"))

    def test_ahead_of_the_side_and_the_rules(self):
        self.check_refused(-4, [load(text_of_length(8187))], move(1, "a1"), move(1, "c1"), move(0, "c1"))
        self.check_refused(-5, [load(text_of_length(8186))], move(1, "a1"), move(1, "c1"))
        self.check_refused(-6, [load(text_of_length(8186))], move(0, "c1"))

    def test_behind_the_form_and_the_time(self):
        full = load(text_of_length(8187))
        self.check_refused(-1, [full], move(2, "a1"))
        self.check_refused(-2, [full], move(0, "a1!"))
        self.check_refused(-3, [full, even(0)], move(0, "a1"))

    def test_a_number_behind_a_note(self):
        # Side 1's move has its number there: "1... a1" and a blank are 8 bytes.
        self.check([0, 2, 0, 0, 0, 7, 9], load(text_of_length(8184, items="1. a1")), move(1, "a1"))
        self.check_refused(-4, [load(text_of_length(8185, items="1. a1"))], move(1, "a1"))

    def test_the_last_move_with_its_result(self):
        # "1. a9", a blank, and two bytes more for 1-0 are 8 bytes.
        fitting = load(text_of_length(8184, heaps="9"))
        self.check([0, 1, 1, 0, 0, 0], fitting, move(0, "a9"))
        self.assertEqual(len(last(fitting, move(0, "a9"), [12])), 1 + 8192)
        for length in (8185, 8186, 8187):
            self.check_refused(-4, [load(text_of_length(length, heaps="9"))], move(0, "a9"))
        self.check([0, 1, 1, 0, 0, 1], load(text_of_length(8186, heaps="9")), move(0, "a8"))

    def test_the_result_counts_for_the_side_to_move_alone(self):
        for length in (8185, 8186):
            setup = [load(text_of_length(length, heaps="9"))]
            self.check_refused(-5, setup, move(1, "a9"))
            self.check_refused(-6, setup, move(0, "b9"))
        self.check_refused(-4, [load(text_of_length(8187, heaps="9"))], move(1, "a9"))


class TakenBack(CallCase):
    def test_a_pass_that_is_taken_back_may_be_made_again(self):
        calls = [begin(5), move(0, "--"), back(0, 1), yes(1)]
        self.check([0, 0, 0, 0, 0, 5], *calls)
        self.check([0, 1, 1, 1, 0, 5], *calls, move(0, "--"))
        self.check_text('[Heaps "5"]\n< 1. -- > 1. -- *\n', *calls, move(0, "--"))

    def test_moves_behind_notes_and_marks(self):
        self.check_text('[Heaps "9"]\n1. a1 $7 a1 {x} 2. a2 {y} 2... a2 3. a1 *\n',
                        begin(9), move(0, "a1"), mark(7), move(1, "a1"), note("x"), move(0, "a2"), note("y"),
                        move(1, "a2"), move(0, "a1"))


if __name__ == "__main__":
    unittest.main()
