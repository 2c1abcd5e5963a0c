"""Many made-up lists of calls, each answered by the program as by the model."""

import random
import unittest

import helper
import model

SIGNS = "()<>{}[]*$.!?-/ \n01289abch\"\t\x00\x7f\xc8%"
LENGTHS = (0, 0, 0, 1, 2, 60, 66, 70, 200)


def random_move(chance):
    letters = "aaabbbch"
    return chance.choice([
        "--", chance.choice(letters) + str(chance.randint(1, 4)), chance.choice(letters) + str(chance.randint(1, 4)),
        chance.choice(letters) + str(chance.randint(1, 2)) + chance.choice(letters)])


def random_items(chance, position, ply, deep):
    """The tokens of a line whose moves are mostly allowed."""
    tokens = []
    trail = [position]
    own = False
    for step in range(chance.randint(1, 5)):
        kind = chance.choice("mmmmmmn(<")
        if kind == "n":
            tokens.append("{" + "n" * chance.choice(LENGTHS) + "}")
        elif kind == "m" or deep > 4 or (kind == "(" and not own):
            text = random_move(chance)
            for attempt in range(20):
                if trail[-1] is not None and model.play(trail[-1], text) is None:
                    text = random_move(chance)
            trail.append(trail[-1] and model.play(trail[-1], text))
            if chance.random() < 0.3:
                tokens.append(str(ply // 2 + 1) + (".", "...")[ply % 2])
            tokens.append(text + chance.choice(["", "", "", "!", "?!"]))
            tokens.extend("$" + str(chance.randint(0, 255)) for mark in range(chance.choice([0, 0, 0, 1, 3])))
            ply += 1
            own = True
        else:
            begins = trail[-2] if kind == "(" else trail[-1]
            inner = random_items(chance, begins, ply - (kind == "("), deep + 1)
            tokens += [kind, *inner, {"(": ")", "<": ">"}[kind]]
    if not own and deep:
        tokens.append(random_move(chance))
    return tokens


def random_text(chance):
    heaps = [chance.choice([0, 1, 2, 3, 5, 9, 20]) for heap in range(chance.randint(1, 4))]
    tokens = ['[Heaps "' + " ".join(map(str, heaps)) + '"]']
    if chance.random() < 0.3:
        tokens.append('[Event "x y"]')
    tokens += random_items(chance, (0, frozenset(), heaps), 0, 0)
    tokens.append(chance.choice(["*", "*", "*", "*", "1-0", "0-1", "1/2"]))
    text = chance.choice([" ", " ", "\n", "  "]).join(tokens)
    for change in range(chance.choice([0, 0, 0, 0, 1, 2])):
        spot = chance.randrange(len(text))
        text = text[:spot] + chance.choice(["", chance.choice(SIGNS)]) + text[spot + chance.randint(0, 1):]
    return text


def random_side(chance):
    return chance.choice([0, 1, 0, 1, 0, 1, 0, 1, 0, 1, 2, -1])


def random_call(chance, game):
    """A call's name and its arguments; many are those that the game allows now."""
    kind = chance.choice(["move"] * 8 + ["back", "yes", "note", "mark"] * 3 + [
        "head", "even", "yes", "no", "withdraw", "resign", "state", "print", "print", "load", "begin"])
    if kind == "begin":
        return kind, [[chance.choice([-1, 0, 0, 3, 8, 30, 10 ** 9]) for heap in range(chance.choice([0, 1, 2, 3, 3, 9]))]]
    if kind == "head":
        return kind, [chance.choice(["A", "B", "C", "Heaps", "", "x1"]), chance.choice(["", "v" * 50, '"'])]
    if kind == "move":
        side = len(game.own_moves()) % 2 if chance.random() < 0.9 else random_side(chance)
        return kind, [side, random_move(chance) + chance.choice([""] * 20 + ["!", " "])]
    if kind == "note":
        return kind, ["n" * chance.choice(LENGTHS + (201,)) + chance.choice([""] * 9 + ["{"])]
    if kind == "mark":
        return kind, [chance.choice([0, 1, 77, 255, 255, 256, -1])]
    if kind == "back":
        return kind, [random_side(chance), chance.choice([0, 1, 1, 1, 2, 2, 3, 10])]
    if kind == "load":
        return kind, [random_text(chance)]
    return kind, [] if kind in ("state", "print") else [random_side(chance)]


def as_numbers(kind, given):
    name = {"print": "printed"}.get(kind, kind)
    return helper.begin(*given[0]) if kind == "begin" else getattr(helper, name)(*given)


def padded(chance):
    """A load of a record that is close to the most that fits."""
    items = chance.choice(["", "1. a1", "1. a1 a1", "1. a1 < 1... a1 >"])
    return "load", [helper.text_of_length(chance.randint(8150, 8192), items=items)]


class Model(unittest.TestCase):
    def check_session(self, chance, first):
        game = model.Game()
        calls = []
        expected = []
        for number in range(chance.randint(1, 40)):
            kind, given = first if number == 0 else random_call(chance, game)
            for call in ((kind, given), ("state", []), ("print", [])) if number % 5 == 4 else ((kind, given),):
                calls.append(as_numbers(*call))
                expected.append(getattr(game, call[0])(*call[1]))
        self.assertEqual(helper.run(*calls), expected)

    def check_text(self, text):
        with self.subTest(text=text):
            self.assertEqual(helper.read(text), model.read(text))
            self.assertEqual(helper.form(text), model.form(text))
            self.assertEqual(helper.judge(text), model.judge(text))
            self.assertEqual(helper.main(text), model.main(text))
            self.assertEqual(helper.places(text), model.places(text))
            for k in (-1, 0, 1, 2, 4, 9, model.MOST):
                self.assertEqual(helper.walk(k, text), model.walk(k, text), k)

    def test_sessions(self):
        for seed in range(600):
            chance = random.Random(seed)
            with self.subTest(seed=seed):
                self.check_session(chance, ("begin", [[chance.choice([0, 5, 12, 40]) for heap in range(3)]]))

    def test_sessions_from_a_loaded_text(self):
        for seed in range(600):
            chance = random.Random(seed)
            with self.subTest(seed=seed):
                self.check_session(chance, ("load", [random_text(chance)]))

    def test_sessions_that_are_nearly_full(self):
        for seed in range(60):
            chance = random.Random(seed)
            with self.subTest(seed=seed):
                self.check_session(chance, padded(chance))

    def test_texts(self):
        for seed in range(3000):
            text = random_text(random.Random(seed))
            self.check_text(text)

    def test_texts_that_are_nearly_full(self):
        for seed in range(60):
            chance = random.Random(seed)
            items = chance.choice(["1. a1", "1. a1 a1", "1. a1 < 1... a1 >", "1. a1 ( 1. a2 ) $1", "1. a10"])
            text = helper.text_of_length(chance.randint(8185, 8200), items=items)
            # Without these it is shorter than its one text.
            self.check_text(text.replace("1. ", "", chance.randint(0, 2))[:8192 + chance.randint(-1, 1)])

    def test_texts_of_signs(self):
        tokens = ["(", ")", "<", ">", "{", "}", "{x}", "[A \"\"]", "[B \"\"]", "]", "*", "1-0", "$1", "$9", "1.", "1...", "2.",
                  "2...", "a1", "b2c!", "--", "a0", " ", "\n", "\t"]
        for seed in range(6000):
            chance = random.Random(seed)
            pieces = [chance.choice(tokens) for piece in range(chance.randint(0, 12))]
            text = chance.choice(["", " "]).join(pieces)
            self.check_text(text)


if __name__ == "__main__":
    unittest.main()
