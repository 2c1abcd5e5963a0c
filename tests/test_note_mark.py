"""note (3) and mark (4)."""

import unittest

from helper import FAR, CallCase, back, begin, even, last, load, mark, move, moves, note, resign, state
from helper import text_of_length, yes


class Note(CallCase):
    def test_at_the_end_of_the_main_line(self):
        self.check([0], begin(3), note("hello"))
        self.check_text('[Heaps "3"]\n{hello} *\n', begin(3), note("hello"))
        self.check_text('[Heaps "3"]\n1. a1 {b} {} 1... a1 {c} *\n',
                        begin(3), move(0, "a1"), note("b"), note(""), move(1, "a1"), note("c"))

    def test_it_changes_nothing_else(self):
        self.check([0, 0, 2, 1, 0, 1, 1, 0, 0, 2], begin(3), move(0, "a1"), even(1), note("x"), state())

    def test_lengths(self):
        self.check([0], begin(3), note(""))
        self.check([0], begin(3), note("n" * 200))
        self.check_text('[Heaps "3"]\n{' + "n" * 200 + "}\n*\n", begin(3), note("n" * 200))
        self.check_refused(-1, [begin(3)], note("n" * 201), note("n" * 1000))

    def test_every_byte(self):
        for byte in range(256):
            right = 32 <= byte <= 126 and byte not in (123, 125)
            self.check([0] if right else [-1], begin(3), note([65, byte, 66]))
            if right:
                self.check_text('[Heaps "3"]\n{A' + chr(byte) + "B} *\n", begin(3), note([65, byte, 66]))
            else:
                self.check_refused(-1, [begin(3)], note([byte]))

    def test_without_a_game(self):
        self.check([-3], note("x"))
        self.check([-1], note("{"))

    def test_when_it_is_over_or_asked(self):
        self.check_text('[Heaps "3"]\n{x} 0-1\n', begin(3), resign(0), note("x"))
        self.check_text('[Heaps "3"]\n1. a3 {x} 1-0\n', begin(3), move(0, "a3"), note("x"))
        self.check_text('[Heaps "3"]\n{x} *\n', begin(3), even(0), note("x"))

    def test_fitting(self):
        # {x} and a blank are 4 bytes.
        self.check([0], load(text_of_length(8188)), note("x"))
        self.assertEqual(len(last(load(text_of_length(8188)), note("x"), [12])), 1 + 8192)
        self.check_refused(-4, [load(text_of_length(8189))], note("x"))
        self.check([0], load(text_of_length(8189)), note(""))
        self.check_refused(-4, [load(text_of_length(8190))], note(""))
        self.check_refused(-1, [load(text_of_length(8190))], note("}"), note("n" * 201))


class Mark(CallCase):
    def test_behind_the_others(self):
        self.check([0], begin(3), move(0, "a1"), mark(7))
        self.check_text('[Heaps "3"]\n1. a1 $7 $0 *\n', begin(3), move(0, "a1"), mark(7), mark(0))

    def test_the_last_move_alone(self):
        self.check_text('[Heaps "9"]\n1. a1 a1 $3 *\n', begin(9), *moves("a1", "a1"), mark(3))

    def test_range(self):
        self.check_text('[Heaps "3"]\n1. a1 $0 $255 *\n', begin(3), move(0, "a1"), mark(0), mark(255))
        self.check_refused(-1, [begin(3), move(0, "a1")], *[mark(n) for n in (-1, 256, FAR, -FAR)])

    def test_four_and_the_fifth(self):
        setup = [begin(3), move(0, "a1"), mark(1), mark(2), mark(2), mark(4)]
        self.check([0], *setup)
        self.check_text('[Heaps "3"]\n1. a1 $1 $2 $2 $4 *\n', *setup)
        self.check_refused(-4, setup, mark(5), mark(0))
        self.check_refused(-1, setup, mark(256))

    def test_marks_that_were_loaded_count(self):
        self.check([0], load('[Heaps "3"] a1! $2 $3 *'), mark(9))
        self.check_text('[Heaps "3"]\n1. a1 $1 $2 $3 $9 *\n', load('[Heaps "3"] a1! $2 $3 *'), mark(9))
        self.check_refused(-4, [load('[Heaps "3"] a1?! $2 $3 $4 *')], mark(9))

    def test_the_last_item_is_no_move(self):
        self.check_refused(-4, [begin(3)], mark(1))
        self.check_refused(-4, [begin(3), note("x")], mark(1))
        self.check_refused(-4, [begin(3), move(0, "a1"), note("x")], mark(1))
        self.check_refused(-4, [begin(3), move(0, "a1"), back(0, 1), yes(1)], mark(1))
        self.check_refused(-4, [load('[Heaps "3"] a1 (a2) *')], mark(1))
        self.check_refused(-4, [load('[Heaps "3"] a1 <a2> *')], mark(1))

    def test_without_a_game(self):
        self.check([-3], mark(1))
        self.check([-1], mark(256))

    def test_when_it_is_over_or_asked(self):
        self.check_text('[Heaps "3"]\n1. a3 $3 1-0\n', begin(3), move(0, "a3"), mark(3))
        self.check_text('[Heaps "3"]\n1. a1 $3 *\n', begin(3), move(0, "a1"), back(1, 1), mark(3))

    def test_fitting(self):
        # "1. a1" and a blank are 6 bytes; $5 and a blank 3, $55 and a blank 4.
        setup = [load(text_of_length(8183)), move(0, "a1")]
        self.check([0], *setup, mark(5))
        self.assertEqual(len(last(*setup, mark(5), [12])), 1 + 8192)
        self.check_refused(-4, setup, mark(55), mark(255))
        self.check_refused(-1, setup, mark(256))
        self.check_refused(-4, [load(text_of_length(8184)), move(0, "a1")], mark(5))


if __name__ == "__main__":
    unittest.main()
