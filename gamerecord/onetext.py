"""The one text of a record."""

from gamerecord.record import CLOSED_BY, MOST_BYTES, MOST_DEPTH, MOVE, NOTE, OPEN_OTHER
from gamerecord.record import depth
from gamerecord.signs import BLANK, HEAD_BEGIN, HEAD_END, NOTE_BEGIN, NOTE_END, QUOTE, ROW_END
from gamerecord.signs import bytes_of
from gamerecord.words import RESULTS, move_signs, number_signs

MOST_ROW_BYTES = 72


def fits(record):
    return depth(record.line) <= MOST_DEPTH and len(one_text(record)) <= MOST_BYTES


def one_text(record):
    text = []
    for head in record.heads:
        text.extend(head_row(head))
    words = line_words(record.line)
    words.append(bytes_of(RESULTS[record.result]))
    text.extend(laid_on_rows(words))
    return text


def head_row(head):
    return [HEAD_BEGIN] + list(head[0]) + [BLANK, QUOTE] + list(head[1]) + [QUOTE, HEAD_END, ROW_END]


def line_words(line):
    words = []
    ply = 0
    outer_plies = []
    behind_move = False
    for item in line:
        if item[0] == MOVE:
            if ply % 2 == 0 or not behind_move:
                words.append(bytes_of(number_signs(ply)))
            words.extend(move_words(item))
            ply += 1
        elif item[0] == NOTE:
            words.append([NOTE_BEGIN] + list(item[1]) + [NOTE_END])
        elif item[0] in CLOSED_BY:
            words.append(bytes_of(item[0]))
            outer_plies.append(ply)
            ply -= 1 if item[0] == OPEN_OTHER else 0
        else:
            words.append(bytes_of(item[0]))
            ply = outer_plies.pop()
        behind_move = item[0] == MOVE
    return words


def move_words(item):
    words = [bytes_of(move_signs(item[1]))]
    for mark in item[2]:
        words.append(bytes_of(f"${mark}"))
    return words


def laid_on_rows(words):
    text = list(words[0])
    width = len(words[0])
    for word in words[1:]:
        if width + 1 + len(word) <= MOST_ROW_BYTES:
            text.append(BLANK)
            width += 1 + len(word)
        else:
            text.append(ROW_END)
            width = len(word)
        text.extend(word)
    text.append(ROW_END)
    return text
