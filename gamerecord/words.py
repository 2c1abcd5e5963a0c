"""The words of texts: results, marks, move numbers and moves."""

from gamerecord.heaps import HEAP_LETTERS, MOST, PASS, SPLIT, TAKE
from gamerecord.record import MOVE
from gamerecord.signs import numeral

# The kinds of words, beside MOVE.
RESULT = "result"
MARK = "mark"
NUMBER = "number"
WRONG = "wrong"

MOST_MARK = 255

PASS_SIGNS = "--"

# Each result's signs, by its number.
RESULTS = ("*", "1-0", "0-1", "1/2")

# The marks that may stand in a move's word, beginning with the mark 1.
MOVE_ENDS = ("!", "?", "!!", "??", "!?", "?!")


# A word's kind and what it tells; of one that isn't right WRONG and None.
def read_word(signs):
    if signs in RESULTS:
        return (RESULT, RESULTS.index(signs))
    if signs.startswith("$"):
        return read_mark(signs)
    if signs.endswith("."):
        return read_number(signs)
    return read_marked_move(signs)


def read_mark(signs):
    mark = numeral(signs[1:], MOST_MARK)
    return (MARK, mark) if mark >= 0 else (WRONG, None)


def read_number(signs):
    digits = signs.rstrip(".")
    points = len(signs) - len(digits)
    number = numeral(digits, MOST)
    if number < 0 or points not in (1, 3):
        return (WRONG, None)
    return (NUMBER, (number, points))


def read_marked_move(signs):
    bare = signs.rstrip("!?")
    end = signs[len(bare):]
    move = read_move(bare)
    if move is None:
        return (WRONG, None)
    if end == "":
        return (MOVE, (move, ()))
    if end in MOVE_ENDS:
        return (MOVE, (move, (MOVE_ENDS.index(end) + 1,)))
    return (WRONG, None)


# The move of a word without a mark; None if the word isn't right.
def read_move(signs):
    if signs == PASS_SIGNS:
        return (PASS,)
    source = heap_of(signs[:1])
    target = heap_of(signs[-1:])
    n = numeral(signs[1:] if target < 0 else signs[1:-1], MOST)
    if source < 0 or n < 1:
        return None
    return (TAKE, n, source) if target < 0 else (SPLIT, n, source, target)


# Which heap a letter names; -1 if none. An empty text would be found in the letters.
def heap_of(letter):
    return HEAP_LETTERS.find(letter) if letter != "" else -1


def move_signs(move):
    if move[0] == PASS:
        return PASS_SIGNS
    signs = HEAP_LETTERS[move[2]] + str(move[1])
    return signs if move[0] == TAKE else signs + HEAP_LETTERS[move[3]]


# The move number that is right at this ply, and how many points it has.
def number_at(ply):
    return (ply // 2 + 1, 1 if ply % 2 == 0 else 3)


def number_signs(ply):
    number = number_at(ply)
    return str(number[0]) + "." * number[1]
