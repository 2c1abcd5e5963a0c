"""main (17): the one text of the main line's moves alone."""

import unittest

from helper import as_bytes, deep, form, main, read, text_given, text_of_length
from test_load import H, RIGHT, WRONG

MAINS = [
    ("*", "*\n"),
    ("{x} 1-0", "1-0\n"),
    ("<a1> 0-1", "0-1\n"),
    ('[A ""] [Heaps "x"] 1/2', '[A ""]\n[Heaps "x"]\n1/2\n'),
    ("a1 *", "1. a1 *\n"),
    ("a1! $3 a1?! a1 $0 *", "1. a1 a1 2. a1 *\n"),
    ("a1 {x} a2 {} {y} -- *", "1. a1 a2 2. -- *\n"),
    ("1. a1 (a2 a3) 1... a4 (a5) <a6> 2. a7b 2... a8 *", "1. a1 a4 2. a7b a8 *\n"),
    ("<a1 <a2>> a3 (a4 (a5 {x})) a6 *", "1. a3 a6 *\n"),
    ("{x} <a1> 1. a2 <a3> 1... a4 *", "1. a2 a4 *\n"),
    ("h1000000000g -- -- -- *", "1. h1000000000g -- 2. -- -- *\n"),
]


class Main(unittest.TestCase):
    def test_moves_alone(self):
        for text, expected in MAINS:
            with self.subTest(text=text):
                self.assertEqual(main(text), [0] + as_bytes(expected))

    def test_heads_and_result_stay(self):
        heads = '[Zoo "  *"]\n[Heaps "9"]\n[Ant ""]\n'
        for result in ("*", "1-0", "0-1", "1/2"):
            self.assertEqual(text_given(main(heads + "{x} a1! (a2) " + result)), heads + "1. a1 " + result + "\n")

    def test_what_it_gives_is_its_own_one_text_and_main(self):
        for text in RIGHT + [deep(40, ["<>", "()"]) + "*"]:
            with self.subTest(text=text[:60]):
                given = text_given(main(H + text))
                self.assertEqual(text_given(form(given)), given)
                self.assertEqual(text_given(main(given)), given)
                whole = read(H + text)
                self.assertEqual(read(given), whole[:4] + [whole[3], 0])

    def test_rows(self):
        text = text_given(main("a1 {x} " * 23 + "*"))
        self.assertEqual(text, " ".join(f"{number}. a1 a1" for number in range(1, 9)) + "\n"
                         + " ".join(f"{number}. a1 a1" for number in range(9, 12)) + " 12. a1 *\n")

    def test_72_bytes_and_73(self):
        seven = " ".join(f"{number}. a1 a1" for number in range(1, 8))
        self.assertEqual(len(seven), 62)
        self.assertEqual(text_given(main(seven + " a111 *")), seven + " 8. a111 *\n")
        self.assertEqual(text_given(main(seven + " a1111 *")), seven + " 8. a1111\n*\n")
        self.assertEqual(text_given(main(seven + " a11 a1 *")), seven + " 8. a11 a1\n*\n")
        self.assertEqual(text_given(main(seven + " a111 a1 *")), seven + " 8. a111\na1 *\n")


class Refused(unittest.TestCase):
    def test_no_record(self):
        for text, place in WRONG:
            with self.subTest(text=text[:60]):
                self.assertEqual(main(H + text), [-2])
        self.assertEqual(main("*" + " " * 8192), [-2])
        self.assertEqual(main(text_of_length(8193)), [-2])

    def test_more_than_8192_bytes(self):
        self.assertEqual(main("a1 " * 2500 + "*"), [-4])
        self.assertEqual(main("a1! " * 2000 + "*"), [-4])

    def test_8192_and_8193_bytes(self):
        moves = "a1 " * 1500 + "*"
        # The head A has 7 bytes and its value's, with the byte that ends its row.
        room = 8192 - (len(main(moves)) - 1) - 7
        for more in (-1, 0):
            self.assertEqual(len(text_given(main('[A "' + "v" * (room + more) + '"]' + moves))), 8192 + more)
        self.assertEqual(main('[A "' + "v" * (room + 1) + '"]' + moves), [-4])

    def test_what_is_left_out_does_not_count(self):
        longer = text_of_length(8193)[:-1]
        self.assertEqual(form(longer), [-4])
        self.assertEqual(text_given(main(longer)), '[Heaps "9 9"]\n*\n')
        self.assertEqual(text_given(main("a1" + "<a1>" * 2000 + "*")), "1. a1 *\n")


if __name__ == "__main__":
    unittest.main()
