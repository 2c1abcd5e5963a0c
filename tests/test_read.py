"""read (14): what a text that is a record has, else the place of what is wrong."""

import unittest

from helper import MOST, as_bytes, deep, place_of, read, text_of_length
from test_load import BAD_BYTES, H, RIGHT, WRONG


class Records(unittest.TestCase):
    def check(self, text, heads, result, moves, items, depth):
        with self.subTest(text=text[:60]):
            self.assertEqual(read(text), [1, heads, result, moves, items, depth])

    def test_the_result_alone(self):
        for number, result in enumerate(("*", "1-0", "0-1", "1/2")):
            self.check(result, 0, number, 0, 0, 0)
            self.check("\n " + result + " \n", 0, number, 0, 0, 0)

    def test_heads(self):
        self.check('[Heaps "9"]*', 1, 0, 0, 0, 0)
        self.check('[A ""][B ""] [a ""]\n1-0', 3, 1, 0, 0, 0)

    def test_heaps_are_not_asked_for(self):
        # What the head Heaps tells, and what is allowed by the rules, doesn't matter for reading.
        self.check("a1 h1000000000g -- -- -- *", 0, 0, 5, 5, 0)
        self.check('[Heaps "x"] a1 0-1', 1, 2, 1, 1, 0)
        self.check('[Heaps "0"] a1 1/2', 1, 3, 1, 1, 0)
        self.check('[Heaps "1"] a1 *', 1, 0, 1, 1, 0)

    def test_moves_of_the_main_line_alone(self):
        self.check("a1 a1 a1 *", 0, 0, 3, 3, 0)
        self.check("a1 (a2 a3 a4) *", 0, 0, 1, 5, 1)
        self.check("a1 (a2) a1 <a3 a4> a1 *", 0, 0, 3, 8, 1)
        self.check("<a1 a2> *", 0, 0, 0, 3, 1)

    def test_marks_and_numbers_are_no_items(self):
        self.check("1. a1! $2 $3 $4 1... a1 *", 0, 0, 2, 2, 0)

    def test_notes_are_items(self):
        self.check("{} *", 0, 0, 0, 1, 0)
        self.check("{} {x} a1 {y} *", 0, 0, 1, 4, 0)

    def test_lines_count_themselves_and_their_items(self):
        self.check("a1 (a2) *", 0, 0, 1, 3, 1)
        self.check("a1 <a2> *", 0, 0, 1, 3, 1)
        self.check("a1 (a2 {x} (a3 {y} <a4>)) {z} *", 0, 0, 1, 10, 3)
        self.check("a1 {(} (a2) {<} *", 0, 0, 1, 5, 1)

    def test_how_deep(self):
        self.check("a1 (a2) <a3> (a4) *", 0, 0, 1, 7, 1)
        self.check("a1 (a2 (a3)) (a4) *", 0, 0, 1, 7, 2)
        self.check("a1 (a2) <a3 <a4 (a5)> (a6)> *", 0, 0, 1, 11, 3)

    def test_1_and_40_deep(self):
        for signs in (["<>"], ["()"], ["<>", "()"], ["()", "<>"]):
            for count in (0, 1, 2, 39, 40):
                self.check(deep(count, signs) + "*", 0, 0, 1, 1 + 2 * count, count)

    def test_many_items(self):
        self.check("a1 " * 2730 + "*", 0, 0, 2730, 2730, 0)
        self.check("{}" * 4095 + "*", 0, 0, 0, 4095, 0)
        self.check("a1" + "<a1>" * 2000 + "*", 0, 0, 1, 4001, 1)


class Bounds(unittest.TestCase):
    """On each bound a record, and one more is wrong at its place."""

    def check(self, right, wrong, place):
        with self.subTest(text=wrong[:60]):
            self.assertEqual(place_of(right), 0)
            self.assertEqual(read(wrong), [0, place])

    def test_8192_bytes(self):
        self.check(text_of_length(8192), text_of_length(8193), 8193)
        for end in ("", "*", " *", "x", "(", "{"):
            for length in (8193, 8194, 9999, 10000):
                self.assertEqual(read("a1 " + " " * (length - 3 - len(end)) + end), [0, 8193])
        self.assertEqual(read("x" * 10000), [0, 8193])
        self.assertEqual(read("x" * 8192), [0, 1])
        self.assertEqual(read(" " * 8192), [0, 8193])
        self.assertEqual(read(" " * 8191), [0, 8192])
        self.assertEqual(read([200] * 10000), [0, 8193])

    def test_20_heads(self):
        twenty = "".join(f'[{letter} ""]' for letter in "abcdefghijklmnopqrst")
        self.assertEqual(read(twenty + "*"), [1, 20, 0, 0, 0, 0])
        self.check(twenty + "*", twenty + '[u ""]*', len(twenty) + 1)
        self.check(twenty + " *", twenty + ' [a ""]*', len(twenty) + 2)

    def test_four_marks(self):
        self.check("a1 $1 $2 $3 $4 *", "a1 $1 $2 $3 $4 $5 *", 16)
        for end in ("!", "?", "!!", "??", "!?", "?!"):
            self.check(f"a1{end} $2 $3 $4 *", f"a1{end} $2 $3 $4 $5 *", 13 + len(end))
        self.check("a1 (a2 $1 $2 $3 $4) *", "a1 (a2 $1 $2 $3 $4 $5) *", 20)

    def test_marks(self):
        self.check("a1 $0 *", "a1 $00 *", 4)
        self.check("a1 $1 *", "a1 $01 *", 4)
        self.check("a1 $255 *", "a1 $256 *", 4)
        self.check("a1 $99 *", "a1 $099 *", 4)

    def test_40_deep(self):
        for signs in (["<>"], ["()"], ["<>", "()"]):
            within = "a1 " + "".join(signs[level % len(signs)][0] + "a1 " for level in range(40))
            for sign in "<(":
                self.check(deep(40, signs) + "*", within + sign + "a1", len(within) + 1)
            self.assertEqual(place_of(deep(41, signs) + "*"), len(within) + 1)

    def test_notes(self):
        self.check("{" + "n" * 200 + "}*", "{" + "n" * 201 + "}*", 1)
        self.check("a1 {" + "n" * 200 + "}*", "a1 {" + "n" * 201 + "}*", 4)

    def test_values(self):
        self.check('[A "' + "v" * 100 + '"]*', '[A "' + "v" * 101 + '"]*', 1)

    def test_names(self):
        self.check("[" + "N" * 20 + ' ""]*', "[" + "N" * 21 + ' ""]*', 1)
        self.check('[N ""]*', '[ ""]*', 1)

    def test_numerals_of_moves(self):
        for end in ("", "b", "!"):
            self.check(f"a{MOST}{end} *", f"a{MOST + 1}{end} *", 1)
            self.check(f"a999999999{end} *", f"a9999999999{end} *", 1)
            self.check(f"a1{end} *", f"a0{end} *", 1)
            self.check(f"a10{end} *", f"a010{end} *", 1)

    def test_move_numbers(self):
        self.check("1. a1 *", "01. a1 *", 1)
        self.check("1. a1 *", f"{MOST}. a1 *", 1)
        self.check("1. a1 *", f"{MOST + 1}. a1 *", 1)
        ten = "a1 " * 18
        self.check(ten + "10. a1 *", ten + "010. a1 *", len(ten) + 1)
        self.check(ten + "10. a1 10... a1 *", ten + "10. a1 10. a1 *", len(ten) + 8)
        self.check(ten + "a1 10... a1 *", ten + "a1 11. a1 *", len(ten) + 4)

    def test_heaps_letters(self):
        self.check("h1 *", "i1 *", 1)
        self.check("a1h *", "a1i *", 1)
        self.check("h1a *", "H1a *", 1)


class Places(unittest.TestCase):
    def test_right_texts(self):
        for text in RIGHT:
            self.assertEqual(place_of(H + text), 0, text)
            self.assertEqual(place_of(text), 0, text)

    def test_wrong_texts(self):
        for text, place in WRONG:
            with self.subTest(text=text[:60]):
                self.assertEqual(read(H + text), [0, len(H) + place])
                self.assertEqual(read("\n" + H + " " + text), [0, len(H) + 2 + place])

    def test_the_text_ends_too_early(self):
        for text in ("", " ", "\n\n", "a1", "a1 ", "a1 $1", "{}", "{} \n", "a1 (a2", "a1 (a2 ", "a1 (", "<", "< ", "a1 (a2)",
                     '[A ""]', '[A ""] ', "1. a1", "a1 (a2 <a3>", "a1 (a2 <a3> \n "):
            with self.subTest(text=text):
                self.assertEqual(read(text), [0, len(text) + 1])

    def test_a_number_at_the_texts_end(self):
        for text, place in (("1.", 1), ("1. ", 1), (" 1.\n", 2), ("a1 1...", 4), ("a1 (1.", 5), ("a1 <a2 2. ", 8)):
            self.assertEqual(read(text), [0, place])

    def test_the_first_of_several_wrong_tokens(self):
        for text, place in (("x y", 1), ("a1 $256 (", 4), ("* x", 3), ("a1 ) {", 4), ("{ x", 1), ("2. x", 1), ("1. x", 1),
                            ("a1 (1... [", 5), ("a1 > x", 4), ("<> x", 2), ('[A ""] [A ""] x', 8), ("( x", 1), ("$1 x", 1)):
            with self.subTest(text=text):
                self.assertEqual(read(text), [0, place])

    def test_bytes_that_belong_to_words(self):
        for byte in BAD_BYTES:
            with self.subTest(byte=byte):
                self.assertEqual(read([byte] + as_bytes("*")), [0, 1])
                self.assertEqual(read(as_bytes("a1") + [byte] + as_bytes(" *")), [0, 1])
                self.assertEqual(read(as_bytes("a1 ") + [byte] + as_bytes("*")), [0, 4])
                self.assertEqual(read(as_bytes("a1 $1") + [byte] + as_bytes(" *")), [0, 4])
                self.assertEqual(read(as_bytes("a1(") + [byte] + as_bytes("a1)*")), [0, 4])
                self.assertEqual(read(as_bytes("* ") + [byte]), [0, 3])
                self.assertEqual(read(as_bytes("a1 {x") + [byte] + as_bytes("}*")), [0, 4])
                self.assertEqual(read(as_bytes(' [A "v') + [byte] + as_bytes('"]*')), [0, 2])
                self.assertEqual(read(as_bytes(" [A") + [byte] + as_bytes(' ""]*')), [0, 2])

    def test_every_byte_by_itself(self):
        for byte in range(256):
            expected = [1, 0, 0, 0, 0, 0] if byte == ord("*") else [0, 2] if byte in as_bytes(" \n<") else [0, 1]
            self.assertEqual(read([byte]), expected, byte)

    def test_every_byte_in_a_note(self):
        for byte in range(256):
            right = 32 <= byte <= 126 and byte not in (123, 125)
            self.assertEqual(read([123, byte, 125, 42])[0] == 1, right, byte)

    def test_every_byte_in_a_head(self):
        for byte in range(256):
            right = 32 <= byte <= 126 and byte != 34
            self.assertEqual(read(as_bytes('[A "') + [byte] + as_bytes('"]*'))[0] == 1, right, byte)
            letter = 65 <= byte <= 90 or 97 <= byte <= 122
            self.assertEqual(read(as_bytes("[A") + [byte] + as_bytes(' ""]*'))[0] == 1, letter, byte)
            self.assertEqual(read(as_bytes("[A") + [byte] + as_bytes('""]*'))[0] == 1, byte == 32, byte)

    def test_long_and_deeply_nested(self):
        self.assertEqual(read("(" * 8192), [0, 1])
        self.assertEqual(read("<" * 8192), [0, 41])
        self.assertEqual(read("a1" + "(" * 8000), [0, 4])
        self.assertEqual(read("{" * 8192), [0, 1])
        self.assertEqual(read("[" * 8192), [0, 1])
        self.assertEqual(read("[A" + " " * 8000), [0, 1])
        self.assertEqual(read('[A "' + "v" * 8000), [0, 1])
        self.assertEqual(read("a" + "1" * 8000), [0, 1])


if __name__ == "__main__":
    unittest.main()
