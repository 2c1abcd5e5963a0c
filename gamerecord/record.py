"""Records, and what is done to their lines.

A head is a tuple of its name and its value, each a tuple of bytes.

A line is one flat list, so that lines within lines are gone through by loops:
a move is (MOVE, move, marks), a note is (NOTE, bytes); an alternative is what stands
between (OPEN_OTHER,) and (CLOSE_OTHER,), a taken-back line what stands between
(OPEN_BACK,) and (CLOSE_BACK,).
"""

MOVE = "move"
NOTE = "note"
OPEN_OTHER = "("
CLOSE_OTHER = ")"
OPEN_BACK = "<"
CLOSE_BACK = ">"

# What each bracket that begins a line is closed by.
CLOSED_BY = {"(": ")", "<": ">"}

GOES_ON = 0
EVEN = 3

MOST_HEADS = 20
MOST_MARKS = 4
MOST_DEPTH = 40

# Of a text that is read, and of the one text of a record that fits.
MOST_BYTES = 8192


# Not changed once it is made: what changes a game makes another one.
class Record:
    def __init__(self, heads, line, result):
        self.heads = heads
        self.line = line
        self.result = result


def won_by(side):
    return 1 + side


def with_head(record, name, value):
    heads = []
    is_new = True
    for head in record.heads:
        if head[0] == name:
            heads.append((name, value))
            is_new = False
        else:
            heads.append(head)
    if is_new:
        heads.append((name, value))
    return Record(heads, record.line, record.result)


def with_item(record, item):
    return Record(record.heads, record.line + [item], record.result)


def with_result(record, result):
    return Record(record.heads, record.line, result)


# Only for a line that can take a mark.
def with_mark(record, mark):
    return Record(record.heads, record.line[:-1] + [marked(record.line[-1], mark)], record.result)


# What stands behind the first of the k moves, of whatever kind, goes into the taken-back line with them.
def with_moves_back(record, k):
    cut = main_move_spots(record.line)[-k]
    line = record.line[:cut] + [(OPEN_BACK,)] + record.line[cut:] + [(CLOSE_BACK,)]
    return Record(record.heads, line, record.result)


# Without marks, notes and lines in brackets.
def with_main_moves_alone(record):
    line = [(MOVE, record.line[spot][1], ()) for spot in main_move_spots(record.line)]
    return Record(record.heads, line, record.result)


def can_take_mark(line):
    return len(line) > 0 and line[-1][0] == MOVE and len(line[-1][2]) < MOST_MARKS


def marked(move_item, mark):
    return (MOVE, move_item[1], move_item[2] + (mark,))


# Where the main line's own moves stand in its flat list.
def main_move_spots(line):
    spots = []
    deep = 0
    for spot, item in enumerate(line):
        if item[0] == MOVE and deep == 0:
            spots.append(spot)
        deep += step_deeper(item)
    return spots


# In lines within lines too. A line in brackets is one item, and counted where it begins.
def how_many_items(line):
    return len([item for item in line if item[0] not in (CLOSE_OTHER, CLOSE_BACK)])


def depth(line):
    deepest = 0
    deep = 0
    for item in line:
        deep += step_deeper(item)
        deepest = max(deepest, deep)
    return deepest


def step_deeper(item):
    if item[0] in (OPEN_OTHER, OPEN_BACK):
        return 1
    if item[0] in (CLOSE_OTHER, CLOSE_BACK):
        return -1
    return 0
