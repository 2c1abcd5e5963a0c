"""The place of what is wrong in a text."""

import unittest

from helper import place_of, text_of_length
from test_load import H, RIGHT, WRONG


class Places(unittest.TestCase):
    def test_right_texts(self):
        for text in RIGHT:
            self.assertEqual(place_of(H + text), 0, text)
            self.assertEqual(place_of(text), 0, text)

    def test_wrong_texts(self):
        for text, place in WRONG:
            with self.subTest(text=text[:60]):
                self.assertEqual(place_of(H + text), len(H) + place)

    def test_heads_too_many(self):
        twenty = "".join(f'[{letter} ""]' for letter in "abcdefghijklmnopqrst")
        self.assertEqual(place_of(twenty + "*"), 0)
        self.assertEqual(place_of(twenty + '[u ""]*'), len(twenty) + 1)

    def test_41_deep(self):
        for sign in "<(":
            text = "a1 " + (sign + "a1 ") * 40
            self.assertEqual(place_of(text + sign + "a1"), len(text) + 1)

    def test_more_than_8192_bytes(self):
        self.assertEqual(place_of(text_of_length(8192)), 0)
        self.assertEqual(place_of(text_of_length(8193)), 8193)
        self.assertEqual(place_of("x" * 10000), 8193)
        self.assertEqual(place_of("x" * 8192), 1)


if __name__ == "__main__":
    unittest.main()
