"""What is answered of a text alone, without a game."""

from gamerecord.heaps import MOST, game_row
from gamerecord.judging import is_result_right, positions_of, trail_of
from gamerecord.onetext import one_text
from gamerecord.reading import NoRecord, read_if_record, read_record
from gamerecord.record import MOST_BYTES
from gamerecord.record import depth, how_many_items, main_move_spots, with_main_moves_alone
from gamerecord.replies import AGAINST_RULES, DONE, NO_PLACE, NO_TEXT, NOT_NOW, WRONG_FORM

# What read answers first.
NO_RECORD = 0
IS_RECORD = 1

# What judge finds.
NOTHING_WRONG = 0
NO_HEAPS = 1
MOVE_NOT_ALLOWED = 2
RESULT_NOT_RIGHT = 3


def read(text):
    try:
        record = read_record(text)
    except NoRecord as wrong:
        return [NO_RECORD, wrong.place]
    line = record.line
    return [IS_RECORD, len(record.heads), record.result, len(main_move_spots(line)), how_many_items(line), depth(line)]


def form(text):
    record = read_if_record(text)
    if record is None:
        return [NO_TEXT]
    return printed(record)


def printed(record):
    text = one_text(record)
    return [DONE] + text if len(text) <= MOST_BYTES else [NO_PLACE]


def judge(text):
    record = read_if_record(text)
    if record is None:
        return [NO_TEXT]
    return [DONE] + judged(record)


def judged(record):
    trail = trail_of(record)
    if trail is None:
        return [NO_HEAPS]
    if trail.end is None:
        # One position more than moves that are allowed: so many is the number of the first that isn't.
        return [MOVE_NOT_ALLOWED, len(trail.positions)]
    if not is_result_right(trail.end, record.result):
        return [RESULT_NOT_RIGHT]
    return [NOTHING_WRONG] + game_row(trail.end)


def main(text):
    record = read_if_record(text)
    if record is None:
        return [NO_TEXT]
    return printed(with_main_moves_alone(record))


def walk(k, text):
    if not 0 <= k <= MOST:
        return [WRONG_FORM]
    record = read_if_record(text)
    if record is None:
        return [NO_TEXT]
    positions = positions_of(record)
    if positions is None:
        return [AGAINST_RULES]
    if k >= len(positions):
        return [NOT_NOW]
    return [DONE] + game_row(positions[k])


def places(text):
    record = read_if_record(text)
    if record is None:
        return [NO_TEXT]
    positions = positions_of(record)
    if positions is None:
        return [AGAINST_RULES]
    return [DONE, how_many_different(positions), len(positions) - 1]


def how_many_different(positions):
    seen = {}
    for position in positions:
        # A game row without its ply, which alone makes no two positions different.
        seen[tuple(game_row(position)[1:])] = True
    return len(seen)
