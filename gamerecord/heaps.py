"""The game of heaps: its positions, and the moves that are allowed in them.

A move is a tuple: (TAKE, n, heap), (SPLIT, n, heap, empty heap) or (PASS,).
Heaps are told by where they stand, from 0.
"""

MOST = 1000000000
MOST_HEAPS = 8
HEAP_LETTERS = "abcdefgh"

TAKE = "take"
SPLIT = "split"
PASS = "pass"


# Not changed once it is made: a move makes another one.
class Position:
    def __init__(self, heaps, passed, ply):
        self.heaps = heaps
        self.passed = passed
        self.ply = ply


def first_position(heaps):
    return Position(list(heaps), [0, 0], 0)


def is_over(position):
    return max(position.heaps) == 0


def side_to_move(position):
    return position.ply % 2


def is_allowed(position, move):
    if is_over(position):
        return False
    if move[0] == PASS:
        return position.passed[side_to_move(position)] == 0
    if move[0] == TAKE:
        return can_take(position.heaps, move[1], move[2])
    return can_split(position.heaps, move[1], move[2], move[3])


def can_take(heaps, n, source):
    return source < len(heaps) and 1 <= n <= heaps[source]


def can_split(heaps, n, source, target):
    if source >= len(heaps) or target >= len(heaps):
        return False
    return 1 <= n < heaps[source] and heaps[target] == 0


# Only for a move that is allowed.
def position_after(position, move):
    heaps = list(position.heaps)
    passed = list(position.passed)
    if move[0] == PASS:
        passed[side_to_move(position)] = 1
    else:
        heaps[move[2]] -= move[1]
    if move[0] == SPLIT:
        heaps[move[3]] = move[1]
    return Position(heaps, passed, position.ply + 1)


def game_row(position):
    return [position.ply, side_to_move(position)] + position.passed + position.heaps
