"""back (5), even (6), yes (7), no (8), withdraw (9), resign (10) and state (11)."""

import unittest

from helper import FAR, MOST, CallCase, back, begin, even, head, last, load, mark, move, moves, no, note, printed, resign
from helper import run, state, text_after, text_of_length, withdraw, yes

WRONG_SIDES = (-1, 2, FAR, -FAR)


def nested(depth, sign="<", end=">"):
    """Lines so deep in one another, each with a move of its own."""
    return (sign + "a1 ") * depth + end * depth


class Back(CallCase):
    def test_asks(self):
        self.check([0], begin(9), *moves("a1", "a1"), back(0, 2))
        self.check([0, 0, 1, 0, 2, 2, 0, 0, 0, 7], begin(9), *moves("a1", "a1"), back(0, 2), state())
        self.check([0, 0, 1, 1, 1, 2, 0, 0, 0, 7], begin(9), *moves("a1", "a1"), back(1, 1), state())
        self.check_text('[Heaps "9"]\n1. a1 a1 *\n', begin(9), *moves("a1", "a1"), back(1, 1))

    def test_one_all_and_one_more(self):
        setup = [begin(9), *moves("a1", "a1", "a1")]
        for k in (1, 2, 3):
            self.check([0], *setup, back(0, k))
        self.check_refused(-3, setup, back(0, 4), back(1, 4), back(0, MOST))
        self.check_refused(-3, [begin(9)], back(0, 1))

    def test_range(self):
        setup = [begin(9), move(0, "a1")]
        self.check_refused(-1, setup, *[back(0, k) for k in (0, -1, MOST + 1, FAR, -FAR)])
        self.check_refused(-1, setup, *[back(side, 1) for side in WRONG_SIDES])
        self.check_refused(-1, setup, back(2, 0), back(2, 5))

    def test_moves_in_lines_within_do_not_count(self):
        setup = [load('[Heaps "9"] a1 (a2 a2) <a1 a1> *')]
        self.check([0], *setup, back(0, 1))
        self.check_refused(-3, setup, back(0, 2))

    def test_not_the_time(self):
        self.check([-3], back(0, 1))
        self.check([-1], back(0, 0))
        self.check_refused(-3, [begin(9), move(0, "a1"), resign(1)], back(0, 1))
        self.check_refused(-3, [begin(9), move(0, "a9")], back(0, 1))
        self.check_refused(-3, [begin(9), move(0, "a1"), back(0, 1)], back(0, 1), back(1, 1))
        self.check_refused(-3, [begin(9), move(0, "a1"), even(0)], back(0, 1), back(1, 1))
        self.check_refused(-1, [begin(9), move(0, "a1"), even(0)], back(0, 0), back(3, 1))


class Even(CallCase):
    def test_asks(self):
        for side in (0, 1):
            self.check([0], begin(9), even(side))
            self.check([0, 0, 2, side, 0, 0, 0, 0, 0, 9], begin(9), even(side), state())
        self.check_text('[Heaps "9"]\n*\n', begin(9), even(0))

    def test_refusals(self):
        self.check([-3], even(0))
        self.check([-1], even(2))
        self.check_refused(-1, [begin(9)], *[even(side) for side in WRONG_SIDES])
        self.check_refused(-3, [begin(9), resign(0)], even(0))
        self.check_refused(-3, [begin(9), even(0), yes(1)], even(0), even(1))
        self.check_refused(-3, [begin(9), even(0)], even(0), even(1))
        self.check_refused(-3, [begin(9), move(0, "a1"), back(1, 1)], even(0), even(1))
        self.check_refused(-1, [begin(9), even(0)], even(2))


class Yes(CallCase):
    def test_to_even(self):
        self.check([0, 1, 1, 0, 0, 8], begin(9), move(0, "a1"), even(0), yes(1))
        self.check([0, 3, 0, 0, 0, 1, 1, 0, 0, 8], begin(9), move(0, "a1"), even(0), yes(1), state())
        self.check_text('[Heaps "9"]\n1. a1 1/2\n', begin(9), move(0, "a1"), even(1), yes(0))

    def test_to_take_back(self):
        setup = [begin(9), *moves("a1", "a2", "--"), back(1, 2)]
        self.check([0, 1, 1, 0, 0, 8], *setup, yes(0))
        self.check([0, 0, 0, 0, 0, 1, 1, 0, 0, 8], *setup, yes(0), state())
        self.check_text('[Heaps "9"]\n1. a1 < 1... a2 2. -- > *\n', *setup, yes(0))

    def test_all_moves(self):
        self.check([0, 0, 0, 0, 0, 9], begin(9), *moves("a1", "a2"), back(0, 2), yes(1))
        self.check_text('[Heaps "9"]\n< 1. a1 a2 > *\n', begin(9), *moves("a1", "a2"), back(0, 2), yes(1))

    def test_what_stands_before_the_cut_stays(self):
        calls = [begin(9), note("p"), move(0, "a1"), note("q"), move(1, "a2"), mark(2), note("r"), back(0, 1), yes(1)]
        self.check_text('[Heaps "9"]\n{p} 1. a1 {q} < 1... a2 $2 {r} > *\n', *calls)

    def test_a_note_behind_the_asking_is_cut_too(self):
        calls = [begin(9), move(0, "a1"), back(0, 1), note("x"), mark(1), yes(1)]
        self.check_text('[Heaps "9"]\n< 1. a1 {x} > *\n', *calls)

    def test_it_goes_on_behind_it(self):
        calls = [begin(9), *moves("a1", "a2"), back(0, 1), yes(1), move(1, "a3"), move(0, "a1")]
        self.check([0, 3, 1, 0, 0, 4], *calls)
        self.check_text('[Heaps "9"]\n1. a1 < 1... a2 > 1... a3 2. a1 *\n', *calls)

    def test_taken_back_more_than_once(self):
        calls = [begin(9), *moves("a1", "a2"), back(0, 1), yes(1), move(1, "a3"), back(1, 1), yes(0)]
        self.check_text('[Heaps "9"]\n1. a1 < 1... a2 > < 1... a3 > *\n', *calls)
        self.check_text('[Heaps "9"]\n< 1. a1 < 1... a2 > < 1... a3 > > *\n', *calls, back(1, 1), yes(0))
        self.check_text('[Heaps "9"]\n< 1. a1 < 1... a2 > < 1... a3 > > 1. a4 *\n', *calls, back(1, 1), yes(0),
                        move(0, "a4"))

    def test_lines_within_lines_stay(self):
        text = '[Heaps "9 9"] a1! {n} (a2 {m} <b1> b1 (b2)) <b3 (b4 $9)> b5 (b6) {k} *'
        calls = [load(text), back(0, 2), yes(1)]
        self.check([0, 0, 0, 0, 0, 9, 9], *calls)
        self.check_text('[Heaps "9 9"]\n< 1. a1 $1 {n} ( 1. a2 {m} < 1... b1 > 1... b1 ( 1... b2 ) ) < 1... b3 (\n'
                        '1... b4 $9 ) > 1... b5 ( 1... b6 ) {k} > *\n', *calls)
        self.check_text('[Heaps "9 9"]\n1. a1 $1 {n} ( 1. a2 {m} < 1... b1 > 1... b1 ( 1... b2 ) ) < 1... b3 (\n'
                        '1... b4 $9 ) > < 1... b5 ( 1... b6 ) {k} > *\n', load(text), back(0, 1), yes(1))

    def test_the_state_is_that_of_the_record_that_is_printed(self):
        calls = [begin(9, 0, 4), *moves("--", "a3b", "c4", "a1", "b2"), back(0, 3), yes(1), move(0, "c1"), back(1, 2), yes(0)]
        found = run(*calls, state(), printed())
        loaded = run(load(found[-1][1:]), state(), printed())
        self.assertEqual(loaded[1:], found[-2:])
        self.assertEqual(found[-2], [0, 0, 0, 0, 0, 1, 1, 1, 0, 9, 0, 4])

    def test_refusals(self):
        self.check([-3], yes(0))
        self.check([-1], yes(2))
        self.check_refused(-1, [begin(9)], *[yes(side) for side in WRONG_SIDES])
        self.check_refused(-3, [begin(9)], yes(0), yes(1))
        for side in (0, 1):
            asked_back = [begin(9), move(0, "a1"), back(side, 1)]
            self.check_refused(-5, asked_back, yes(side))
            self.check_refused(-5, [begin(9), even(side)], yes(side))
            self.check_refused(-1, asked_back, yes(2))
            self.check_refused(-3, asked_back + [yes(1 - side)], yes(0), yes(1))
            self.check_refused(-3, asked_back + [no(1 - side)], yes(0), yes(1))
            self.check_refused(-3, asked_back + [withdraw(side)], yes(0), yes(1))
            self.check_refused(-3, asked_back + [resign(side)], yes(0), yes(1))

    def test_even_fitting(self):
        self.check([0, 0, 0, 0, 0, 9, 9], load(text_of_length(8190)), even(0), yes(1))
        self.assertEqual(len(last(load(text_of_length(8190)), even(0), yes(1), printed())), 1 + 8192)
        setup = [load(text_of_length(8191)), even(0)]
        self.check_refused(-4, setup, yes(1), yes(0))
        self.check_refused(-1, setup, yes(2))
        self.check([0], *setup, yes(1), no(1))

    def test_taking_back_fitting(self):
        # The brackets and their blanks are 4 bytes.
        items = "1. a1 a1"
        self.check([0, 0, 0, 0, 0, 9, 9], load(text_of_length(8188, items=items)), back(0, 2), yes(1))
        self.assertEqual(len(last(load(text_of_length(8188, items=items)), back(0, 2), yes(1), printed())), 1 + 8192)
        self.check_refused(-4, [load(text_of_length(8189, items=items)), back(0, 2)], yes(1), yes(0))
        self.check_refused(-5, [load(text_of_length(8188, items=items)), back(0, 2)], yes(0))

    def test_a_number_that_comes_by_the_cut(self):
        # With a number of its own, "1..." and a blank, side 1's move needs 5 bytes more.
        items = "1. a1 a1"
        self.check([0, 1, 1, 0, 0, 8, 9], load(text_of_length(8183, items=items)), back(0, 1), yes(1))
        self.assertEqual(len(last(load(text_of_length(8183, items=items)), back(0, 1), yes(1), printed())), 1 + 8192)
        self.check_refused(-4, [load(text_of_length(8184, items=items)), back(0, 1)], yes(1), yes(0))

    def test_40_and_41_deep(self):
        for begin_sign, end_sign in ("<>", "()"):
            deep39 = '[Heaps "99"] a1 ' + nested(39, begin_sign, end_sign) + "*"
            deep40 = '[Heaps "99"] a1 ' + nested(40, begin_sign, end_sign) + "*"
            self.check([0, 0, 0, 0, 0, 99], load(deep39), back(0, 1), yes(1))
            text = text_after(load(deep39), back(0, 1), yes(1))
            self.assertEqual(text_after(load(text)), text)
            self.check_refused(-4, [load(deep40), back(0, 1)], yes(1), yes(0))
            self.check([0], load(deep40), back(0, 1), no(1))

    def test_41_deep_where_the_deep_line_is_not_cut(self):
        text = '[Heaps "99"] a1 ' + nested(40) + "a1 *"
        self.check([0, 1, 1, 0, 0, 98], load(text), back(0, 1), yes(1))
        self.check_refused(-4, [load(text), back(0, 2)], yes(1))

    def test_deep_by_calls_alone(self):
        count = 32
        calls = [begin(99), *moves(*["a1"] * count)]
        for taken in range(count):
            calls += [back(taken % 2, 1), yes(1 - taken % 2)]
        self.check([0, 0, 0, 0, 0, 99], *calls)
        text = text_after(*calls)
        self.assertEqual(text.count("<"), count)
        self.assertTrue(text.replace("\n", " ").endswith("> " * count + "* "))
        self.assertEqual(text_after(load(text)), text)


class No(CallCase):
    def test_nothing_is_asked_then(self):
        for side in (0, 1):
            self.check([0], begin(9), even(side), no(1 - side))
            self.check([0, 0, 0, 0, 0, 0, 0, 0, 0, 9], begin(9), even(side), no(1 - side), state())
            self.check([0, 0, 0, 0, 0, 1, 1, 0, 0, 8], begin(9), move(0, "a1"), back(side, 1), no(1 - side), state())
        self.check_text('[Heaps "9"]\n1. a1 *\n', begin(9), move(0, "a1"), back(0, 1), no(1))
        self.check([0, 2, 0, 0, 0, 7], begin(9), move(0, "a1"), back(0, 1), no(1), move(1, "a1"))

    def test_refusals(self):
        self.check([-3], no(0))
        self.check([-1], no(2))
        self.check_refused(-1, [begin(9), even(0)], *[no(side) for side in WRONG_SIDES])
        self.check_refused(-3, [begin(9)], no(0), no(1))
        self.check_refused(-5, [begin(9), even(0)], no(0))
        self.check_refused(-5, [begin(9), even(1)], no(1))
        self.check_refused(-5, [begin(9), move(0, "a1"), back(0, 1)], no(0))


class Withdraw(CallCase):
    def test_nothing_is_asked_then(self):
        for side in (0, 1):
            self.check([0], begin(9), even(side), withdraw(side))
            self.check([0, 0, 0, 0, 0, 0, 0, 0, 0, 9], begin(9), even(side), withdraw(side), state())
            self.check([0, 0, 0, 0, 0, 1, 1, 0, 0, 8], begin(9), move(0, "a1"), back(side, 1), withdraw(side), state())
        self.check_text('[Heaps "9"]\n1. a1 *\n', begin(9), move(0, "a1"), back(0, 1), withdraw(0))

    def test_refusals(self):
        self.check([-3], withdraw(0))
        self.check([-1], withdraw(2))
        self.check_refused(-1, [begin(9), even(0)], *[withdraw(side) for side in WRONG_SIDES])
        self.check_refused(-3, [begin(9)], withdraw(0), withdraw(1))
        self.check_refused(-5, [begin(9), even(0)], withdraw(1))
        self.check_refused(-5, [begin(9), even(1)], withdraw(0))
        self.check_refused(-5, [begin(9), move(0, "a1"), back(0, 1)], withdraw(1))


class Resign(CallCase):
    def test_the_other_side_has_won(self):
        self.check([0], begin(9), resign(0))
        self.check([0, 2, 0, 0, 0, 0, 0, 0, 0, 9], begin(9), resign(0), state())
        self.check([0, 1, 0, 0, 0, 1, 1, 0, 0, 8], begin(9), move(0, "a1"), resign(1), state())
        self.check_text('[Heaps "9"]\n0-1\n', begin(9), resign(0))
        self.check_text('[Heaps "9"]\n1. a1 1-0\n', begin(9), move(0, "a1"), resign(1))

    def test_out_of_turn(self):
        self.check([0, 1, 0, 0, 0, 0, 0, 0, 0, 9], begin(9), resign(1), state())

    def test_nothing_is_asked_then(self):
        self.check([0, 2, 0, 0, 0, 0, 0, 0, 0, 9], begin(9), even(1), resign(0), state())
        self.check([0, 2, 0, 0, 0, 1, 1, 0, 0, 8], begin(9), move(0, "a1"), back(0, 1), resign(0), state())

    def test_refusals(self):
        self.check([-3], resign(0))
        self.check([-1], resign(2))
        self.check_refused(-1, [begin(9)], *[resign(side) for side in WRONG_SIDES])
        self.check_refused(-3, [begin(9), resign(0)], resign(0), resign(1))
        self.check_refused(-3, [begin(9), move(0, "a9")], resign(0), resign(1))
        self.check_refused(-3, [begin(9), even(0), yes(1)], resign(0))
        self.check_refused(-1, [begin(9), resign(0)], resign(2))

    def test_fitting(self):
        self.check([0], load(text_of_length(8190)), resign(0))
        self.assertEqual(len(last(load(text_of_length(8190)), resign(0), printed())), 1 + 8192)
        self.check_refused(-4, [load(text_of_length(8191))], resign(0), resign(1))
        self.check_refused(-4, [load(text_of_length(8191)), even(1)], resign(0), resign(1))
        self.check_refused(-1, [load(text_of_length(8191))], resign(2))


class State(CallCase):
    def test_without_a_game(self):
        self.check([-3], state())

    def test_the_game_row(self):
        self.check([0, 0, 0, 0, 0, 3, 1, 1, 0, 5, 2, 6], begin(7, 0, 7), *moves("--", "a2b", "c1"), state())
        self.check([0, 0, 0, 0, 0, 1, 1, 0, 0, 1, 2, 3, 4, 5, 6, 7, 7], begin(1, 2, 3, 4, 5, 6, 7, 8), move(0, "h1"),
                   state())

    def test_it_changes_nothing(self):
        setup = [begin(9), head("E", "x"), move(0, "a1"), back(1, 1)]
        found = run(*setup, state(), state(), printed(), state())
        self.assertEqual(found[-4], found[-3])
        self.assertEqual(found[-4], found[-1])
        self.assertEqual(found[-1], [0, 0, 1, 1, 1, 1, 1, 0, 0, 8])


if __name__ == "__main__":
    unittest.main()
