"""What is answered of a text alone, without a game."""

from gamerecord.onetext import one_text
from gamerecord.reading import NoRecord, read_if_record, read_record
from gamerecord.record import MOST_BYTES
from gamerecord.record import depth, how_many_items, main_move_spots
from gamerecord.replies import DONE, NO_PLACE, NO_TEXT

# What read answers first.
NO_RECORD = 0
IS_RECORD = 1


def read(text):
    try:
        record = read_record(text)
    except NoRecord as wrong:
        return [NO_RECORD, wrong.place]
    line = record.line
    return [IS_RECORD, len(record.heads), record.result, len(main_move_spots(line)), how_many_items(line), depth(line)]


def form(text):
    record = read_if_record(text)
    if record is None:
        return [NO_TEXT]
    return printed(record)


def printed(record):
    text = one_text(record)
    return [DONE] + text if len(text) <= MOST_BYTES else [NO_PLACE]
