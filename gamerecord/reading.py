"""Reading a text strictly: its record, or the place of what is wrong."""

from gamerecord.record import CLOSED_BY, MOST_BYTES, MOST_DEPTH, MOST_HEADS, MOVE, NOTE, OPEN_OTHER
from gamerecord.record import Record, can_take_mark, marked
from gamerecord.tokens import HEAD, TEXT_END, tokens_of
from gamerecord.words import MARK, NUMBER, RESULT, number_at


# The text is no record; the place of what is wrong counts from 1.
class NoRecord(ValueError):
    def __init__(self, place):
        ValueError.__init__(self, f"no record: wrong at {place}")
        self.place = place


# A line whose end has not been read: its ply, how many moves of its own it has, what closes it.
class OpenLine:
    def __init__(self, ply, closing):
        self.ply = ply
        self.moves = 0
        self.closing = closing


# What has been read of a text. The last of the open lines is the one that is being read.
class Reader:
    def __init__(self, tokens):
        self.tokens = tokens
        self.spot = 0
        self.heads = []
        self.line = []
        # No token is of this closing kind: the main line ends by the result alone.
        self.open_lines = [OpenLine(0, None)]


# The text's record. Raises NoRecord if it is none.
def read_record(text):
    if len(text) > MOST_BYTES:
        raise NoRecord(MOST_BYTES + 1)
    reader = Reader(tokens_of(text))
    while token_now(reader).kind == HEAD:
        read_head(reader, token_now(reader))
        reader.spot += 1
    while token_now(reader).kind != RESULT or len(reader.open_lines) > 1:
        read_item_token(reader, token_now(reader))
        reader.spot += 1
    result = token_now(reader).told
    reader.spot += 1
    need(token_now(reader).kind == TEXT_END, token_now(reader))
    return Record(reader.heads, reader.line, result)


# The text's record; None if it is none.
def read_if_record(text):
    try:
        return read_record(text)
    except NoRecord:
        return None


def token_now(reader):
    return reader.tokens[reader.spot]


def need(holds, token):
    if not holds:
        raise NoRecord(token.begin + 1)


def read_head(reader, token):
    names = [head[0] for head in reader.heads]
    need(token.told[0] not in names and len(names) < MOST_HEADS, token)
    reader.heads.append(token.told)


def read_item_token(reader, token):
    if token.kind == MOVE:
        take_move(reader, token)
    elif token.kind == MARK:
        take_mark(reader, token)
    elif token.kind == NUMBER:
        check_number(reader, token)
    elif token.kind == NOTE:
        reader.line.append((NOTE, token.told))
    elif token.kind in CLOSED_BY:
        begin_line(reader, token)
    else:
        end_line(reader, token)


def take_move(reader, token):
    line = reader.open_lines[-1]
    line.ply += 1
    line.moves += 1
    reader.line.append((MOVE, token.told[0], token.told[1]))


def take_mark(reader, token):
    need(can_take_mark(reader.line), token)
    reader.line[-1] = marked(reader.line[-1], token.told)


def check_number(reader, token):
    # A last token stands behind every number: the wrong one, or the text's end.
    behind = reader.tokens[reader.spot + 1]
    need(token.told == number_at(reader.open_lines[-1].ply) and behind.kind == MOVE, token)


def begin_line(reader, token):
    line = reader.open_lines[-1]
    # The main line is open too, and not counted as deep.
    need(len(reader.open_lines) <= MOST_DEPTH, token)
    need(token.kind != OPEN_OTHER or line.moves > 0, token)
    ply = line.ply - 1 if token.kind == OPEN_OTHER else line.ply
    reader.open_lines.append(OpenLine(ply, CLOSED_BY[token.kind]))
    reader.line.append((token.kind,))


def end_line(reader, token):
    line = reader.open_lines[-1]
    need(token.kind == line.closing and line.moves > 0, token)
    reader.open_lines.pop()
    reader.line.append((token.kind,))
