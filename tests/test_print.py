"""print (12): the one text of a record."""

import unittest

from helper import CallCase, begin, head, load, move, moves, note, printed, run, text_after, text_of_length


class Print(CallCase):
    def test_without_a_game(self):
        self.check([-3], printed())
        self.assertEqual(run(load("x"), printed()), [[-2], [-3]])

    def test_bytes(self):
        self.check([0, 91, 72, 101, 97, 112, 115, 32, 34, 51, 34, 93, 10, 42, 10], begin(3), printed())

    def test_heads_in_order(self):
        self.check_text('[Zoo "1"]\n[Heaps "3"]\n[Ant ""]\n*\n', load('[Zoo "1"][Heaps "3"] [Ant ""]*'))

    def test_results(self):
        for result in ("*", "1-0", "0-1", "1/2"):
            self.check_text('[Heaps "3"]\n' + result + "\n", load('[Heaps "3"]' + result))

    def test_marks_in_words_are_printed_as_numbers(self):
        for signs, number in (("!", 1), ("?", 2), ("!!", 3), ("??", 4), ("!?", 5), ("?!", 6)):
            self.check_text(f'[Heaps "3 0"]\n1. a1 ${number} -- ${number} *\n',
                            load(f'[Heaps "3 0"] a1{signs} --{signs} *'))
            self.check_text(f'[Heaps "3 0"]\n1. a1b ${number} $0 *\n', load(f'[Heaps "3 0"] a1b{signs} $0 *'))

    def test_numbers_where_they_must_stand(self):
        self.check_text('[Heaps "9"]\n1. a1 a1 2. a1 a1 3. a1 *\n', load('[Heaps "9"]a1 a1 a1 a1 a1 *'))
        self.check_text('[Heaps "9"]\n1. a1 {} 1... a1 2. a1 *\n', load('[Heaps "9"]a1{}a1 a1 *'))
        self.check_text('[Heaps "9"]\n1. a1 ( 1. a2 a2 ) 1... a1 ( 1... a2 2. a2 a1 ) 2. a1 *\n',
                        load('[Heaps "9"]a1(a2 a2)a1(a2 a2 a1)a1 *'))
        self.check_text('[Heaps "9"]\n1. a1 < 1... a2 > 1... a1 < 2. a2 > 2. a1 *\n',
                        load('[Heaps "9"]a1<a2>a1<a2>a1 *'))
        self.check_text('[Heaps "9"]\n1. a1 $9 a1 $9 2. a1 *\n', load('[Heaps "9"]a1 $9 a1 $9 a1 *'))
        self.check_text('[Heaps "9"]\n< {} 1. a1 a1 {} > {} 1. a1 *\n', load('[Heaps "9"]<{}a1 a1{}>{}a1 *'))

    def test_numbers_that_stood_where_they_need_not(self):
        self.check_text('[Heaps "9"]\n1. a1 a1 2. a1 *\n', load('[Heaps "9"]1. a1 1... a1 2. a1 *'))

    def test_numbers_of_two_digits(self):
        text = " ".join(f"{number}. a1 a1" for number in range(1, 12))
        self.check_text('[Heaps "99"]\n' + text[:text.index("9. ") - 1] + "\n9. a1 a1 10. a1 a1 11. a1 a1 *\n",
                        load('[Heaps "99"]' + text + " *"))

    def test_72_bytes_and_73(self):
        # A row is "{n..}", a blank, and "*".
        self.check_text('[Heaps "9"]\n{' + "n" * 68 + "} *\n", begin(9), note("n" * 68))
        self.check_text('[Heaps "9"]\n{' + "n" * 69 + "}\n*\n", begin(9), note("n" * 69))
        self.check_text('[Heaps "9"]\n{' + "n" * 66 + "} 1-0\n", begin(9), note("n" * 66), [10, 1])
        self.check_text('[Heaps "9"]\n{' + "n" * 67 + "}\n1-0\n", begin(9), note("n" * 67), [10, 1])

    def test_rows_behind_the_first(self):
        self.check_text('[Heaps "9"]\n{' + "n" * 70 + "}\n{" + "m" * 68 + "} *\n",
                        begin(9), note("n" * 70), note("m" * 68))
        self.check_text('[Heaps "9"]\n{' + "n" * 70 + "}\n{" + "m" * 69 + "}\n*\n",
                        begin(9), note("n" * 70), note("m" * 69))

    def test_words_longer_than_a_row(self):
        self.check_text('[Heaps "9"]\n{' + "n" * 200 + "}\n{" + "m" * 71 + "}\n1. a1 *\n",
                        begin(9), note("n" * 200), note("m" * 71), move(0, "a1"))

    def test_a_number_may_end_a_row(self):
        self.check_text('[Heaps "9"]\n{' + "n" * 67 + "} 1.\na1 *\n", begin(9), note("n" * 67), move(0, "a1"))

    def test_blanks_in_notes_do_not_break_them(self):
        text = "a b " * 25
        self.check_text('[Heaps "9"]\n1. a1\n{' + text + "}\n*\n", begin(9), move(0, "a1"), note(text))

    def test_heads_are_not_broken(self):
        self.check_text('[Heaps "9"]\n[' + "N" * 20 + ' "' + "v" * 100 + '"]\n*\n',
                        begin(9), head("N" * 20, "v" * 100))

    def test_it_changes_nothing(self):
        found = run(begin(9), *moves("a1", "a2"), printed(), printed(), [11], printed())
        self.assertEqual(found[-4], found[-3])
        self.assertEqual(found[-4], found[-1])

    def test_what_is_printed_can_be_loaded(self):
        for length in (100, 1000, 8191, 8192):
            text = text_of_length(length)
            self.assertEqual(text_after(load(text)), text)

    def test_many_prints_of_a_long_text(self):
        found = run(load(text_of_length(8192)), *[printed()] * 99)
        self.assertEqual([len(answer) for answer in found[1:]], [8193] * 99)


if __name__ == "__main__":
    unittest.main()
