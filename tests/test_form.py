"""form (15): the one text of a text's record."""

import unittest

from helper import as_bytes, deep, form, load, read, text_after, text_given, text_of_length
from test_load import H, RIGHT, WRONG

# Texts and their one texts.
FORMS = [
    ("*", "*\n"),
    (" 1-0\n\n", "1-0\n"),
    ("0-1", "0-1\n"),
    ("1/2", "1/2\n"),
    ('[A ""]*', '[A ""]\n*\n'),
    ('[Zoo "x  y"] [Ant "*"]*', '[Zoo "x  y"]\n[Ant "*"]\n*\n'),
    ("a1 *", "1. a1 *\n"),
    ("a1 b2 c3d -- *", "1. a1 b2 2. c3d -- *\n"),
    ("1. a1 1... a1 2. a1 2... a1 *", "1. a1 a1 2. a1 a1 *\n"),
    ("a1! a1? a1!! a1?? a1!? a1?! *", "1. a1 $1 a1 $2 2. a1 $3 a1 $4 3. a1 $5 a1 $6 *\n"),
    ("a1! $7 $0 $255 a1 *", "1. a1 $1 $7 $0 $255 a1 *\n"),
    ("{}a1{x}a1{ y }a1 *", "{} 1. a1 {x} 1... a1 { y } 2. a1 *\n"),
    ("a1(a2 a3)a4 *", "1. a1 ( 1. a2 a3 ) 1... a4 *\n"),
    ("a1 a1(a2)a1 *", "1. a1 a1 ( 1... a2 ) 2. a1 *\n"),
    ("a1<a2 a3>a4 *", "1. a1 < 1... a2 2. a3 > 1... a4 *\n"),
    ("<a1>a1 *", "< 1. a1 > 1. a1 *\n"),
    ("a1(<a2{x}>a3(a4<a5>))*", "1. a1 ( < 1. a2 {x} > 1. a3 ( 1. a4 < 1... a5 > ) ) *\n"),
    ("h1000000000a *", "1. h1000000000a *\n"),
]


def form_text(text):
    return text_given(form(text))


class Form(unittest.TestCase):
    def test_one_texts(self):
        for text, expected in FORMS:
            with self.subTest(text=text):
                self.assertEqual(form(text), [0] + as_bytes(expected))

    def test_of_the_one_text_it_is_the_same_again(self):
        for text in [text for text, expected in FORMS] + RIGHT + [deep(40, ["<>", "()"]) + "*"]:
            with self.subTest(text=text[:60]):
                once = form_text(text)
                self.assertEqual(form_text(once), once)
                self.assertEqual(read(once), read(text))

    def test_as_it_is_printed_when_loaded(self):
        for text in RIGHT:
            self.assertEqual(form_text(H + text), text_after(load(H + text)))

    def test_blanks_do_not_matter(self):
        tokens = ["[A \"b c\"]", "1.", "a1", "$3", "(", "a2", ")", "{x  y}", "<", "a3", ">", "*"]
        expected = '[A "b c"]\n1. a1 $3 ( 1. a2 ) {x  y} < 1... a3 > *\n'
        for between in (" ", "\n", "\n \n"):
            self.assertEqual(form_text(between.join(tokens)), expected)
            self.assertEqual(form_text(between + between.join(tokens) + between), expected)

    def test_the_game_does_not_matter(self):
        # No head Heaps, moves that aren't allowed, a result that isn't right.
        self.assertEqual(form_text("c9 -- -- -- *"), "1. c9 -- 2. -- -- *\n")
        self.assertEqual(form_text('[Heaps "1"] a1 *'), '[Heaps "1"]\n1. a1 *\n')

    def test_numbers_of_more_digits(self):
        words = form_text("a1 " * 240 + "*").split()
        self.assertEqual(words, " ".join(f"{number}. a1 a1" for number in range(1, 121)).split() + ["*"])


class Refused(unittest.TestCase):
    def test_no_record(self):
        for text, place in WRONG:
            with self.subTest(text=text[:60]):
                self.assertEqual(form(H + text), [-2])

    def test_more_than_8192_bytes(self):
        self.assertEqual(form(text_of_length(8193)), [-2])
        self.assertEqual(form("*" + " " * 8191), [0, 42, 10])
        self.assertEqual(form("*" + " " * 8192), [-2])
        self.assertEqual(form("*" + " " * 9999), [-2])

    def test_one_text_of_more_than_8192_bytes(self):
        full = text_of_length(8192)
        self.assertEqual(form_text(full), full)
        self.assertEqual(form_text(full[:-1]), full)
        longer = text_of_length(8193)[:-1]
        self.assertEqual((len(longer), read(longer)[0]), (8192, 1))
        self.assertEqual(form(longer), [-4])

    def test_what_is_printed_beside_the_moves_counts(self):
        self.assertEqual(form("a1 " * 2500 + "*"), [-4])
        self.assertEqual(form("a1!" + "{}a1!" * 1600 + " *"), [-4])
        self.assertEqual(form("a1" + "<a1>" * 1000 + "*"), [-4])
        self.assertEqual(form("{}" * 3000 + "*"), [-4])
        self.assertEqual(len(form("{}" * 2730 + "*")), 1 + 8192)
        self.assertEqual(form("{ }" + "{}" * 2729 + "*"), [-4])


class Rows(unittest.TestCase):
    def test_72_bytes_and_73(self):
        self.assertEqual(form_text("{" + "n" * 68 + "}*"), "{" + "n" * 68 + "} *\n")
        self.assertEqual(form_text("{" + "n" * 69 + "}*"), "{" + "n" * 69 + "}\n*\n")
        self.assertEqual(form_text("{" + "n" * 66 + "}1/2"), "{" + "n" * 66 + "} 1/2\n")
        self.assertEqual(form_text("{" + "n" * 67 + "}1/2"), "{" + "n" * 67 + "}\n1/2\n")

    def test_72_bytes_and_73_in_a_later_row(self):
        for before in ("{" + "m" * 70 + "}", "{" + "m" * 71 + "}", "{" + "m" * 200 + "}"):
            self.assertEqual(form_text(before + "{" + "n" * 68 + "}*"), before + "\n{" + "n" * 68 + "} *\n")
            self.assertEqual(form_text(before + "{" + "n" * 69 + "}*"), before + "\n{" + "n" * 69 + "}\n*\n")

    def test_each_word_may_begin_a_row(self):
        words = ["1.", "a1", "$7", "(", "1.", "a2", ")", "<", "1...", "a3", ">", "1...", "a1", "{n m}", "1/2"]
        for length in range(60, 75):
            note = "{" + "n" * (length - 2) + "}"
            rows = [note]
            for word in words:
                if len(rows[-1]) + 1 + len(word) <= 72:
                    rows[-1] += " " + word
                else:
                    rows.append(word)
            self.assertEqual(form_text(note + " ".join(words)), "\n".join(rows) + "\n")

    def test_heads_are_not_laid_on_rows(self):
        value = "v w" * 33
        self.assertEqual(form_text(f'[A "{value}"][B ""] a1 *'), f'[A "{value}"]\n[B ""]\n1. a1 *\n')


if __name__ == "__main__":
    unittest.main()
