"""What is answered of a text alone, without a game."""

from gamerecord.heaps import game_row
from gamerecord.judging import follow, heaps_of, is_result_right
from gamerecord.onetext import one_text
from gamerecord.reading import NoRecord, read_if_record, read_record
from gamerecord.record import MOST_BYTES
from gamerecord.record import depth, how_many_items, main_move_spots, with_main_moves_alone
from gamerecord.replies import DONE, NO_PLACE, NO_TEXT

# What read answers first.
NO_RECORD = 0
IS_RECORD = 1

# What judge finds.
NOTHING_WRONG = 0
NO_HEAPS = 1
MOVE_NOT_ALLOWED = 2
RESULT_NOT_RIGHT = 3


def read(text):
    try:
        record = read_record(text)
    except NoRecord as wrong:
        return [NO_RECORD, wrong.place]
    line = record.line
    return [IS_RECORD, len(record.heads), record.result, len(main_move_spots(line)), how_many_items(line), depth(line)]


def form(text):
    record = read_if_record(text)
    if record is None:
        return [NO_TEXT]
    return printed(record)


def printed(record):
    text = one_text(record)
    return [DONE] + text if len(text) <= MOST_BYTES else [NO_PLACE]


def judge(text):
    record = read_if_record(text)
    if record is None:
        return [NO_TEXT]
    return [DONE] + judged(record)


def judged(record):
    heaps = heaps_of(record)
    if heaps is None:
        return [NO_HEAPS]
    trail = follow(heaps, record.line)
    if trail.end is None:
        # One position more than moves that are allowed: so many is the number of the first that isn't.
        return [MOVE_NOT_ALLOWED, len(trail.positions)]
    if not is_result_right(trail.end, record.result):
        return [RESULT_NOT_RIGHT]
    return [NOTHING_WRONG] + game_row(trail.end)


def main(text):
    record = read_if_record(text)
    if record is None:
        return [NO_TEXT]
    return printed(with_main_moves_alone(record))
