"""begin (0) and head (1)."""

import unittest

from helper import FAR, MOST, CallCase, back, begin, even, head, load, move, moves, note, printed, resign, run, state
from helper import text_of_length


class Begin(CallCase):
    def test_a_new_game(self):
        self.check([0], begin(3, 4))
        self.check([0, 0, 0, 0, 0, 0, 0, 0, 0, 3, 4], begin(3, 4), state())
        self.check_text('[Heaps "3 4"]\n*\n', begin(3, 4))

    def test_one_heap_and_eight(self):
        self.check([0], begin(1))
        self.check_text('[Heaps "1"]\n*\n', begin(1))
        self.check([0], begin(1, 2, 3, 4, 5, 6, 7, 8))
        self.check_text('[Heaps "1 2 3 4 5 6 7 8"]\n*\n', begin(1, 2, 3, 4, 5, 6, 7, 8))

    def test_no_heap_and_nine(self):
        self.check([-1], begin())
        self.check([-1], begin(1, 2, 3, 4, 5, 6, 7, 8, 9))
        self.check([-1], begin(*([1] * 100)))

    def test_sizes(self):
        self.check([0], begin(0, MOST))
        self.check_text('[Heaps "0 1000000000"]\n*\n', begin(0, MOST))
        self.check_text('[Heaps "' + " ".join([str(MOST)] * 8) + '"]\n*\n', begin(*([MOST] * 8)))
        for wrong in (-1, MOST + 1, FAR, -FAR):
            self.check([-1], begin(wrong))
            self.check([-1], begin(3, wrong))
            self.check([-1], begin(wrong, 3))

    def test_all_heaps_0(self):
        self.check([-1], begin(0))
        self.check([-1], begin(0, 0, 0, 0, 0, 0, 0, 0))
        self.check([0], begin(0, 0, 0, 0, 0, 0, 0, 1))

    def test_a_refused_begin_makes_no_game(self):
        self.assertEqual(run(begin(0), state(), printed()), [[-1], [-3], [-3]])

    def test_a_refused_begin_leaves_the_game(self):
        setup = [begin(3, 4), *moves("a1"), note("x"), even(1)]
        self.check_refused(-1, setup, begin(), begin(0, 0), begin(-1), begin(MOST + 1), begin(*range(9)))

    def test_a_second_begin_makes_all_new(self):
        before = [begin(3, 4), head("Event", "x"), *moves("a1", "--"), note("n"), back(0, 1)]
        self.check([0], *before, begin(5))
        self.check([0, 0, 0, 0, 0, 0, 0, 0, 0, 5], *before, begin(5), state())
        self.check_text('[Heaps "5"]\n*\n', *before, begin(5))
        self.check([0, 0, 0, 0, 0, 0, 0, 0, 0, 5], begin(3), resign(0), begin(5), state())

    def test_the_passes_are_new_too(self):
        self.check([0, 1, 1, 1, 0, 5], begin(3), move(0, "--"), begin(5), move(0, "--"))


class Head(CallCase):
    def test_a_new_one_is_the_last(self):
        self.check([0, 2], begin(3), head("Event", "a game"))
        self.check([0, 3], begin(3), head("Event", "a game"), head("Place", ""))
        self.check_text('[Heaps "3"]\n[Event "a game"]\n[Place ""]\n*\n',
                        begin(3), head("Event", "a game"), head("Place", ""))

    def test_one_that_is_there_keeps_its_place(self):
        calls = [begin(3), head("Event", "x"), head("Place", "y"), head("Event", "z")]
        self.check([0, 3], *calls)
        self.check_text('[Heaps "3"]\n[Event "z"]\n[Place "y"]\n*\n', *calls)

    def test_names_differ_by_capitals(self):
        self.check_text('[Heaps "3"]\n[event "x"]\n[Event "y"]\n*\n', begin(3), head("event", "x"), head("Event", "y"))
        self.check_text('[Heaps "3"]\n[heaps "4"]\n*\n', begin(3), head("heaps", "4"))

    def test_names(self):
        for right in ("A", "Z", "a", "z", "x" * 20):
            self.check([0, 2], begin(3), head(right, "v"))
        wrong = ["", "x" * 21, "a b", "a1", "@", "[", "`", "{", "a-b", [0], [200], [65, 225], [65, 10]]
        self.check_refused(-1, [begin(3)], *[head(name, "v") for name in wrong])

    def test_values(self):
        for right in ("", " ", "~", "x" * 100, "[]{}()<>\\"):
            self.check([0, 2], begin(3), head("Event", right))
            self.check_text('[Heaps "3"]\n[Event "' + right + '"]\n*\n', begin(3), head("Event", right))
        wrong = ["x" * 101, '"', 'a"b', [31], [127], [10], [9], [0], [255], "x" * 1000]
        self.check_refused(-1, [begin(3)], *[head("Event", value) for value in wrong])

    def test_every_byte_of_a_value(self):
        for byte in range(256):
            right = 32 <= byte <= 126 and byte != 34
            self.check([0, 2] if right else [-1], begin(3), head("Event", [byte]))

    def test_heaps_is_refused(self):
        self.check_refused(-1, [begin(3)], head("Heaps", "4"), head("Heaps", "3"), head("Heaps", ""))

    def test_without_a_game(self):
        self.check([-3], head("Event", "x"))
        self.check([-1], head("Heaps", "4"))
        self.check([-1], head("", "x"))
        self.check([-1], head("Event", '"'))

    def test_20_heads_and_the_21st(self):
        letters = "bcdefghijklmnopqrst"
        setup = [begin(3)] + [head(letter, "v") for letter in letters]
        self.check([0, 20], *setup)
        self.check_refused(-4, setup, head("u", "v"), head("u", ""))
        self.check_refused(-1, setup, head("u1", "v"))
        self.check([0, 20], *setup, head("t", "w"))
        text = '[Heaps "3"]\n' + "".join(f'[{letter} "v"]\n' for letter in letters) + "*\n"
        self.check_text(text, *setup, head("u", "v"))

    def test_fitting(self):
        # [E "x"] and the end of its row are 8 bytes.
        self.check([0, 2], load(text_of_length(8184)), head("E", "x"))
        self.check_refused(-4, [load(text_of_length(8185))], head("E", "x"))
        self.check([0, 2], load(text_of_length(8185)), head("E", ""))
        self.check_refused(-4, [load(text_of_length(8184)), head("E", "x")], head("E", "xy"))
        self.check([0, 2], load(text_of_length(8184)), head("E", "x"), head("E", "y"))
        self.check_refused(-1, [load(text_of_length(8192))], head("E", '"'))

    def test_when_it_is_over_or_asked(self):
        self.check([0, 2], begin(3), resign(0), head("Event", "x"))
        self.check([0, 2], begin(3), *moves("a3"), head("Event", "x"))
        self.check([0, 0, 2, 1, 0, 0, 0, 0, 0, 3], begin(3), even(1), head("Event", "x"), state())


if __name__ == "__main__":
    unittest.main()
