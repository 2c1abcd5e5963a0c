"""Calls as lists of numbers, their answers, and checks that several test files share."""

import unittest

from gamerecord import texts
from gamerecord.game import answers

MOST = 1000000000
FAR = 10 ** 18


def as_bytes(text):
    return list(text) if isinstance(text, (list, tuple)) else [ord(sign) for sign in text]


def as_text(row):
    return "".join(chr(byte) for byte in row)


def row(text):
    content = as_bytes(text)
    return [len(content)] + content


def begin(*heaps):
    return [0] + row(heaps)


def head(name, value):
    return [1] + row(name) + row(value)


def move(side, text):
    return [2, side] + row(text)


def note(text):
    return [3] + row(text)


def mark(n):
    return [4, n]


def back(side, k):
    return [5, side, k]


def even(side):
    return [6, side]


def yes(side):
    return [7, side]


def no(side):
    return [8, side]


def withdraw(side):
    return [9, side]


def resign(side):
    return [10, side]


def state():
    return [11]


def printed():
    return [12]


def load(text):
    return [13] + row(text)


def split_answers(given):
    found = []
    spot = 0
    while spot < len(given):
        end = spot + 1 + given[spot]
        found.append(given[spot + 1:end])
        spot = end
    return found


def run(*calls):
    """The answers to these calls on one new object, a list each."""
    whole = [number for call in calls for number in call]
    found = split_answers(answers(whole))
    assert len(found) == len(calls), (len(found), len(calls))
    return found


def last(*calls):
    return run(*calls)[-1]


def text_after(*calls):
    """What print gives behind these calls."""
    return text_given(last(*calls, printed()))


def moves(*texts):
    """Moves by the sides in turn, from side 0 on."""
    return [move(ply % 2, text) for ply, text in enumerate(texts)]


def text_of_length(length, heaps="9 9", items="", result="*"):
    """A record's one text with so many bytes: the items, then notes, one of them right before the result."""
    before = '[Heaps "' + heaps + '"]\n'
    words = [items] if items else []
    left = length - len(before) - sum(len(word) + 1 for word in words) - len(result) - 1
    while left > 0:
        # Between two notes stands a blank, and a note has at least its braces.
        size = min(left, 203) if left <= 203 or left - 203 >= 3 else 150
        words.append("{" + "n" * (size - 3) + "}")
        left -= size
    words.append(result)
    rows = [words[0]]
    for word in words[1:]:
        if len(rows[-1]) + 1 + len(word) <= 72:
            rows[-1] += " " + word
        else:
            rows.append(word)
    text = before + "\n".join(rows) + "\n"
    assert len(text) == length, (len(text), length)
    return text


def deep(count, signs):
    """A main line with lines so deep in it, each with a move of its own."""
    return "a1 " + "".join(signs[level % len(signs)][0] + "a1 " for level in range(count)) + "".join(
        signs[level % len(signs)][1] for level in reversed(range(count)))


class Untouched(list):
    """A list that can't be changed, not for a while either."""

    def refuse(self, *given):
        raise AssertionError("what is handed in was changed")

    __setitem__ = __delitem__ = __iadd__ = __imul__ = refuse
    append = clear = extend = insert = pop = remove = reverse = sort = refuse


def of_text(function, *given):
    """What a function of gamerecord.texts gives back, with whole numbers and a text handed in; asked twice."""
    handed = [part if isinstance(part, int) else Untouched(as_bytes(part)) for part in given]
    answer = function(*handed)
    assert type(answer) is list and all(type(number) is int for number in answer), answer
    kept = list(answer)
    answer.clear()
    assert function(*handed) == kept
    return kept


def read(text):
    return of_text(texts.read, text)


def form(text):
    return of_text(texts.form, text)


def judge(text):
    return of_text(texts.judge, text)


def main(text):
    return of_text(texts.main, text)


def walk(k, text):
    return of_text(texts.walk, k, text)


def places(text):
    return of_text(texts.places, text)


def text_given(answer):
    """The text of an answer that must be 0 and its bytes."""
    assert answer[0] == 0, answer
    return as_text(answer[1:])


def place_of(text):
    """The place of what is wrong; 0 if the text is a record."""
    answer = read(text)
    assert len(answer) == (6 if answer[0] == 1 else 2), answer
    return 0 if answer[0] == 1 else answer[1]


class CallCase(unittest.TestCase):
    def check(self, answer, *calls):
        """The last of the calls has this answer."""
        self.assertEqual(last(*calls), answer)

    def check_refused(self, number, setup, *refused):
        """Each call is refused with the number behind the setup, and the state is as it was."""
        for call in refused:
            with self.subTest(call=call[:40], number=number):
                found = run(*setup, state(), printed(), call, state(), printed())
                self.assertEqual(found[-3], [number])
                self.assertEqual(found[-2:], found[-5:-3])

    def check_text(self, text, *calls):
        self.assertEqual(text_after(*calls), text)
