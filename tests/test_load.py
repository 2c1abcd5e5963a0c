"""load (13): texts that are records and legal, that aren't legal, and that are no records."""

import unittest

from gamerecord.judging import legal_end
from gamerecord.reading import read_record
from helper import MOST, CallCase, as_bytes, back, begin, deep, even, last, load, move, note, printed, resign, run
from helper import state, text_after, text_of_length

H = '[Heaps "9 0"]'

RIGHT = [
    "*", " *", "* ", "\n*\n\n", "1-0", "{}*", "{}{x}*", "a1 *", "1. a1 *", "1.\na1\n*", "a1 a1 *", "1. a1 1... a1 *",
    "a1 1... a1 2. a1 *", "a1! *", "a1!! $2 $3 $4 *", "a1 $0 $255 $7 $7 *", "--?! *", "a8b!? *", "a1{}(a2)*",
    "a1(a2)(a3)*", "a1 {x} (a2) {y} (a3) *", "a1<a2>(a3)*", "<a1>*", "<a1><a2>a3 *", "<{x}a1{y}>*", "a1(a2(a3))*",
    "a1(a2<a3(a4)>)*", "a1 ( 1. a2 1... a3 ) *", "a1 < 1... a2 > *", "<1. a1>*", "<a1(a2)>*", "a1(<a2>a3)*",
    "a1({}a2)1... a1 *", "{ a1 ( < [ ] > ) $ * }*", "a9 1-0", "a1 a8 0-1", "a1 (a9) *", "a1 <a8> *", "a1 1/2", "a1 0-1",
    "a9 (a1) {x} 1-0",
]

# Each with the place of what is wrong, counted from 1 behind the head Heaps.
WRONG = [
    # The text ends too early, or goes on.
    ("", 1), (" ", 2), ("a1", 3), ("a1 (a2) ", 9), ("a1 (a2", 7), ("a1 (", 5), ("<a1", 4), ("* *", 3), ("*{}", 2),
    ("* a1", 3), ("1-0 1-0", 5), ("*[A \"\"]", 2), ("*)", 2), ("*\n\n>", 4),
    # Words that aren't right.
    ("a *", 1), ("a0 *", 1), ("a01 *", 1), ("a1000000001 *", 1), ("i1 *", 1), ("A1 *", 1), ("a1i *", 1), ("a1B *", 1),
    ("a0b *", 1), ("a01b *", 1), ("a1bc *", 1), ("a1b1 *", 1), ("- *", 1), ("--- *", 1), ("a1!!! *", 1), ("a1!a *", 1),
    ("a1?!? *", 1), ("! *", 1), ("a1 ! *", 4), ("a! *", 1), ("** ", 1), ("a1* *", 1), ("1- *", 1), ("2-0", 1),
    ("1/3", 1), ("0-0", 1), ("$ *", 1), ("a1 $ *", 4), ("a1 $256 *", 4), ("a1 $-1 *", 4), ("a1 $01 *", 4),
    ("a1 $00 *", 4), ("a1 $1$2 *", 4), ("a1 $1! *", 4), ("a1$1 *", 1), ("a1 $" + "9" * 5000 + " *", 4),
    ("a" + "1" * 5000 + " *", 1), ("1" * 5000 + ". a1 *", 1), ("x", 1), ("\"", 1), ("a1,", 1), ("a1 -0 *", 4),
    # Move numbers.
    ("1 a1 *", 1), ("1.. a1 *", 1), ("1.... a1 *", 1), (". a1 *", 1), ("... a1 *", 1), ("01. a1 *", 1), ("0. a1 *", 1),
    ("2. a1 *", 1), ("1... a1 *", 1), ("a1 1. a1 *", 4), ("a1 2... a1 *", 4), ("a1 2. a1 *", 4), ("1.a1 *", 1),
    ("1000000001. a1 *", 1), ("1000000000. a1 *", 1), ("1. *", 1), ("1.", 1), ("1. ", 1), ("1. 1. a1 *", 1),
    ("1. {} a1 *", 1), ("1. (a1) *", 1), ("1. <a1> *", 1), ("1. $1 a1 *", 1), ("1. a0 *", 1), ("1. [A \"\"] a1 *", 1),
    ("a1 1... *", 4), ("a1 (1... a2) *", 5), ("a1 (2. a2) *", 5), ("a1 <1. a2> *", 5), ("a1 (a2 1. a2) *", 8),
    ("a1 <a2> 2. a3 *", 9), ("a1 (1.) *", 5),
    # Marks.
    ("$1 a1 *", 1), ("{} $1 *", 4), ("a1 {} $1 *", 7), ("a1 (a2) $1 *", 9), ("a1 ($1 a2) *", 5), ("a1 <a2> $1 *", 9),
    ("a1 $1 $2 $3 $4 $5 *", 16), ("a1! $1 $2 $3 $4 *", 14), ("a1 1... $1 *", 4),
    # Notes.
    ("{ *", 1), ("a1 {", 4), ("{{} *", 1), ("{{}} *", 1), ("{}} *", 3), ("} *", 1), ("a1} *", 3), ("{\n} *", 1),
    ("{\t} *", 1), ("{" + "n" * 201 + "} *", 1),
    # Heads.
    ("[", 1), ("[A", 1), ("[A ", 1), ("[A \"", 1), ("[A \"\"", 1), ("[A \"]*", 1), ("[A\"\"]*", 1), ("[A  \"\"]*", 1),
    ("[ A \"\"]*", 1), ("[A \"\" ]*", 1), ("[A \"\"x]*", 1), ("[ \"\"]*", 1), ("[A1 \"\"]*", 1), ("[A\n\"\"]*", 1),
    ("[A \"\n\"]*", 1), ("[" + "N" * 21 + " \"\"]*", 1), ("[A \"" + "v" * 101 + "\"]*", 1), ("[]*", 1), ("]*", 1),
    ("a1]*", 3), ("[A '']*", 1), ("[A x\"]*", 1), ("[A 'v\"]*", 1), ("[A \"v']*", 1),
    ("[Heaps \"9 0\"]*", 1), ("[A \"\"][A \"\"]*", 7), ("[A \"\"][Heaps \"1\"]*", 7),
    ("{}[A \"\"]*", 3), ("a1 [A \"\"] *", 4), ("<a1 [A \"\"]>*", 5),
    # Alternatives, taken-back lines and their ends.
    ("(a1)*", 1), ("{}(a1)*", 3), ("<a1>(a2)*", 5), ("a1 ((a2) a3) *", 5), ("a1 <(a2) a3> *", 5), (")*", 1), (">*", 1),
    ("a1)*", 3), ("a1>*", 3), ("a1()*", 4), ("<>*", 2), ("a1({})*", 6), ("a1(<a2>)*", 8), ("<<a1>>*", 6), ("<*", 2),
    ("a1(*", 4), ("a1(a2>*", 6), ("<a1)*", 4), ("<a1*", 2), ("<a1 *", 5), ("a1 (a2 1-0) *", 8), ("a1 (a2 * ) *", 8),
    ("a1(a2))*", 7), ("a1 (a2 <a3) > *", 11), ("a1 (>) *", 5),
]

RIGHT_HEAPS = {"1": [1], "0 1": [0, 1], "1 2 3 4 5 6 7 8": [1, 2, 3, 4, 5, 6, 7, 8], "1000000000": [MOST]}
WRONG_HEAPS = ["", " ", "1 ", " 1", "1  2", "01", "1 02", "00", "1000000001", "1 2 3 4 5 6 7 8 9", "a", "-1", "1,2", "1.",
               "+1", "1 x", "9" * 100, "1 0 00", "(1)", "Heaps", "$1"]
NO_HEAPS = ["*", "{}*", "a1 *", '[heaps "1"]*', '[HEAPS "1"]*', '[Heap "1"]*', '[Heapss "1"]*']

# Lines for heaps of 9 and 0, each with the number of the first move that isn't allowed.
NOT_ALLOWED = [
    ("a10 *", 1), ("b1 *", 1), ("c1 *", 1), ("h1 *", 1), ("a9b *", 1), ("a1a *", 1), ("a1c *", 1), ("c1a *", 1),
    ("a1b a1b *", 2), ("-- -- -- *", 3), ("a1 -- a1 -- *", 4), ("a9 -- 1-0", 2), ("a9 a1 1-0", 2), ("a5 a5 *", 2),
    ("a1 (a10) *", 2), ("a5 <a5> *", 2), ("<a10> *", 1), ("a1 (a9 --) *", 3), ("a1 <a8 --> *", 3), ("a1 (a2 (a10)) *", 3),
    ("a1 <-- <a9>> *", 3), ("a1 (a5 a5) *", 3), ("a1 (b1) *", 2), ("-- (-- -- a1 <--> --) *", 5), ("-- -- (-- --) *", 4),
    ("a1 <a1b <a1b>> *", 3), ("a1 (a1b b2) *", 3), ("a9 <--> 1-0", 2), ("a9 <a1> 1-0", 2), ("a1 (a2 a3) {n} a1 a9 *", 5),
    ("a1 (a2) <a3> a9 *", 4), ("<a1> <a2 (a3)> a10 *", 4), ("a1 (a2 <a3>) (a4 {x} <a6>) a1 *", 5),
]

BAD_BYTES = [0, 9, 11, 13, 31, 127, 128, 160, 200, 255]


class Records(CallCase):
    def test_right_texts(self):
        for text in RIGHT:
            with self.subTest(text=text):
                answer = last(load(H + text))
                self.assertEqual(answer[0], 0)
                self.assertEqual(len(answer), 7)
                once = text_after(load(H + text))
                self.assertEqual(text_after(load(once)), once)
                self.assertEqual(run(load(H + text), state())[1][6:], run(load(once), state())[1][6:])

    def test_wrong_texts(self):
        for text, place in WRONG:
            with self.subTest(text=text[:60]):
                self.check([-2], load(H + text))
                self.check_refused(-2, [begin(3), move(0, "a1"), even(1)], load(H + text))

    def test_bytes_that_belong_to_words(self):
        for byte in BAD_BYTES:
            self.check([-2], load(as_bytes(H) + [byte] + as_bytes("*")))
            self.check([-2], load(as_bytes(H + "a1") + [byte] + as_bytes(" *")))
            self.check([-2], load(as_bytes(H + "* ") + [byte]))
            self.check([-2], load([byte] + as_bytes(H + "*")))
            self.check([-2], load(as_bytes(H + "{") + [byte] + as_bytes("}*")))
            self.check([-2], load(as_bytes(H + "[A \"") + [byte] + as_bytes("\"]*")))

    def test_the_places_of_blanks(self):
        self.check_text('[Heaps "9 0"]\n[A "x"]\n1. a1 $1 ( 1. a2 ) {n} < 1... a3 > *\n',
                        load('\n [Heaps "9 0"]\n\n [A "x"] \n1.  a1!\n( a2 \n){n} <\n\na3\n>\n * \n '))
        self.check_text('[Heaps "9 0"]\n[A "x"]\n1. a1 $1 ( 1. a2 ) {n} < 1... a3 > *\n',
                        load('[Heaps "9 0"][A "x"]a1!(a2){n}<a3>*'))

    def test_notes(self):
        right = "".join(chr(byte) for byte in range(32, 127) if byte not in (123, 125))
        self.check_text(H + "\n{" + right + "}\n*\n", load(H + "{" + right + "}*"))
        self.check([0, 0, 0, 0, 0, 9, 0], load(H + "{" + "n" * 200 + "}*"))
        self.check([-2], load(H + "{" + "n" * 201 + "}*"))

    def test_heads(self):
        value = "".join(chr(byte) for byte in range(32, 127) if byte != 34)
        self.check_text(H + '\n[A "' + value + '"]\n*\n', load(H + '[A "' + value + '"]*'))
        self.check([0, 0, 0, 0, 0, 9, 0], load(H + "[" + "N" * 20 + ' "' + "v" * 100 + '"]*'))
        letters = "bcdefghijklmnopqrst"
        twenty = H + "".join(f'[{letter} "v"]' for letter in letters)
        self.check([0, 0, 0, 0, 0, 9, 0], load(twenty + "*"))
        self.check([-2], load(twenty + '[u ""]*'))

    def test_40_and_41_deep(self):
        for signs in (["<>"], ["()"], ["<>", "()"]):
            text = '[Heaps "99"]' + deep(40, signs) + "*"
            self.check([0, 1, 1, 0, 0, 98], load(text))
            once = text_after(load(text))
            self.assertEqual(text_after(load(once)), once)
            self.check([-2], load('[Heaps "99"]' + deep(41, signs) + "*"))
        self.check([0, 1, 1, 0, 0, 98], load('[Heaps "99"]' + deep(40, ["<>"]) + "<a1>" * 50 + "*"))
        self.check([-2], load('[Heaps "9"]a1' + "<" * 5000))
        self.check([-2], load('[Heaps "9"]' + "(" * 8000))

    def test_8192_bytes_and_8193(self):
        text = H + "a1 *"
        self.check([0, 1, 1, 0, 0, 8, 0], load(text + " " * (8192 - len(text))))
        self.check([-2], load(text + " " * (8193 - len(text))))
        self.check([-2], load(text + " " * (10000 - len(text))))
        self.check([0, 1, 1, 0, 0, 8, 0], load("\n" * (8192 - len(text)) + text))

    def test_numerals_of_moves(self):
        self.check([0, 1, 1, 0, 0, 0, 1], load('[Heaps "1000000000 1"] a1000000000 *'))
        self.check([-2], load('[Heaps "1000000000 1"] a1000000001 *'))
        self.check([0, 1, 1, 0, 0, 1, 999999999], load('[Heaps "1000000000 0"] a999999999b *'))

    def test_empty_and_without_heads(self):
        self.check([-2], load(""))
        self.check([-6], load("*"))


class Fitting(CallCase):
    def test_one_text_of_8192_and_8193(self):
        self.check([0, 0, 0, 0, 0, 9, 9], load(text_of_length(8192)))
        self.assertEqual(len(last(load(text_of_length(8192)), printed())), 1 + 8192)
        # Without the last byte it is a text of 8192 bytes, but its one text has 8193.
        longer = text_of_length(8193)[:-1]
        self.assertEqual(len(longer), 8192)
        self.check([-4], load(longer))
        self.check_refused(-4, [begin(3), move(0, "a1"), even(1)], load(longer))

    def test_numbers_that_are_printed_count(self):
        short = '[Heaps "1000000000"]' + " a1" * 2000 + " *"
        self.assertLess(len(short), 8192)
        self.check([-4], load(short))

    def test_ahead_of_the_rules(self):
        for heaps in ("9", "0 0", "01", "x"):
            self.check([-4], load(text_of_length(8193, heaps=heaps)[:-1]))
            self.check([-6], load(text_of_length(8192, heaps=heaps, items="1. b9", result="*")[:-1]))
        self.check([-4], load(text_of_length(8193, items="1. c1")[:-1]))
        self.check([-2], load(text_of_length(8193)))
        self.check([-2], load(text_of_length(8192, items="1. c0")))


class Legal(CallCase):
    def test_heaps(self):
        for value, heaps in RIGHT_HEAPS.items():
            self.check([0, 0, 0, 0, 0] + heaps, load(f'[Heaps "{value}"]*'))
        for value in WRONG_HEAPS:
            with self.subTest(value=value):
                self.check([-6], load(f'[Heaps "{value}"]*'))
                self.check_refused(-6, [begin(3), move(0, "a1"), even(1)], load(f'[Heaps "{value}"]*'))

    def test_no_head_heaps(self):
        for text in NO_HEAPS:
            self.check([-6], load(text))

    def test_heaps_need_not_be_the_first_head(self):
        self.check([0, 0, 0, 0, 0, 3], load('[A "9"][Heaps "3"][B ""]*'))

    def test_all_heaps_0(self):
        for result in ("*", "1-0", "0-1", "1/2"):
            self.check([-6], load('[Heaps "0"]' + result))
            self.check([-6], load('[Heaps "0 0 0 0 0 0 0 0"]' + result))
        self.check([-6], load('[Heaps "0"] a1 *'))
        self.check([-6], load('[Heaps "0"] -- *'))

    def test_a_record_that_begins_where_it_is_over_is_legal(self):
        # It is load alone that asks for a heap that isn't 0.
        for result in ("*", "1-0", "0-1", "1/2"):
            self.assertIsNotNone(legal_end(read_record(as_bytes('[Heaps "0"]' + result))))

    def test_moves_that_are_not_allowed(self):
        for text, number in NOT_ALLOWED:
            with self.subTest(text=text):
                self.check([-6], load(H + text))
                self.check_refused(-6, [begin(3), move(0, "a1"), even(1)], load(H + text))

    def test_where_lines_begin(self):
        # An alternative begins before the last move of its own line, a taken-back line behind it.
        right = ["a9 (a9) 1-0", "a5 (a9) *", "a5 <a4> *", "<a9> a9 1-0", "<a9> <a9> *", "a5 a2 (a3 (a4) (a3 a1) <--> --) *",
                 "-- (--) *", "-- <--> -- *", "a5 <a4> (a9) a4 0-1", "a8b (a8b) <b8> b8 (b1) *", "a5 (a6 <a3>) <a4> *",
                 "-- <-- <a9> a9> *", "<-- -- a9> -- *", "a1 {n} <a1 {m} (a8)> {k} (a9) a8 0-1"]
        for text in right:
            with self.subTest(text=text):
                self.assertEqual(last(load(H + text))[0], 0)

    def test_the_result_of_a_game_that_is_over(self):
        for text, right in (("a9 ", "1-0"), ("a1 a8 ", "0-1"), ("a1 a1 a7 ", "1-0"), ("a9 (a1) {x} ", "1-0")):
            for result in ("*", "1-0", "0-1", "1/2"):
                answer = last(load(H + text + result))
                self.assertEqual(answer[0], 0 if result == right else -6, text + result)

    def test_any_result_where_it_is_not_over(self):
        for number, result in enumerate(("*", "1-0", "0-1", "1/2")):
            for items in ("", "a1 ", "a1 (a9) ", "a1 <a8> "):
                answers_given = run(load(H + items + result), state())
                self.assertEqual(answers_given[0][0], 0)
                self.assertEqual(answers_given[1][1], number)


class State(CallCase):
    def test_the_game_row(self):
        self.check([0, 3, 1, 0, 1, 5, 2], load('[Heaps "9 0"] a2b (a1) -- <a3> a2 *'))

    def test_nothing_is_asked_then(self):
        self.check([0, 0, 0, 0, 0, 0, 0, 0, 0, 3], begin(9), even(1), load('[Heaps "3"]*'), state())
        self.check([0, 0, 0, 0, 0, 0, 0, 0, 0, 3], begin(9), move(0, "a1"), back(1, 1), load('[Heaps "3"]*'), state())

    def test_the_game_before_is_gone(self):
        self.check_text('[Heaps "3"]\n*\n', begin(9), move(0, "a1"), note("x"), load('[Heaps "3"]*'))
        self.check([0, 1, 1, 0, 0, 2], begin(9), resign(0), load('[Heaps "3"]*'), move(0, "a1"))

    def test_it_goes_on_from_there(self):
        self.check([0, 2, 0, 0, 0, 0], load('[Heaps "3"] a1 *'), move(1, "a2"))
        self.check_refused(-3, [load('[Heaps "3"] a1 0-1')], move(1, "a2"))
        self.check_refused(-6, [load('[Heaps "9"] -- -- *')], move(0, "--"))

    def test_a_refused_load_makes_no_game(self):
        for text in ("x", "*", '[Heaps "0"]*', text_of_length(8193)[:-1]):
            self.assertEqual(run(load(text), state(), printed())[1:], [[-3], [-3]])


if __name__ == "__main__":
    unittest.main()
