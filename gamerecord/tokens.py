"""Texts as tokens."""

from gamerecord.record import NOTE
from gamerecord.signs import BLANK, HEAD_BEGIN, HEAD_END, NOTE_BEGIN, NOTE_END, QUOTE, ROW_END
from gamerecord.signs import is_head_name, is_head_value, is_note, signs_of
from gamerecord.words import WRONG, read_word

# The kinds of tokens, beside those of words, NOTE and the brackets.
HEAD = "head"
TEXT_END = "end"

LINE_BRACKETS = {40: "(", 41: ")", 60: "<", 62: ">"}

# A word ends before any of these: the blanks, ( ) < > and [ ] { }.
WORD_STOPS = (32, 10, 40, 41, 60, 62, 91, 93, 123, 125)


# Its kind, what it tells, where it begins and where the text goes on behind it, both from 0.
class Token:
    def __init__(self, kind, told, begin, end):
        self.kind = kind
        self.told = told
        self.begin = begin
        self.end = end


# The tokens up to the first one that is wrong by itself, or else up to one for the text's end.
def tokens_of(text):
    found = []
    spot = behind_blanks(text, 0)
    while spot < len(text):
        token = token_at(text, spot)
        found.append(token)
        if token.kind == WRONG:
            return found
        spot = behind_blanks(text, token.end)
    found.append(Token(TEXT_END, None, len(text), len(text)))
    return found


def behind_blanks(text, spot):
    while spot < len(text) and text[spot] in (BLANK, ROW_END):
        spot += 1
    return spot


def token_at(text, spot):
    byte = text[spot]
    if byte in LINE_BRACKETS:
        return Token(LINE_BRACKETS[byte], None, spot, spot + 1)
    if byte == NOTE_BEGIN:
        return note_at(text, spot)
    if byte == HEAD_BEGIN:
        return head_at(text, spot)
    if byte in (NOTE_END, HEAD_END):
        return wrong_at(spot)
    return word_at(text, spot)


def wrong_at(spot):
    return Token(WRONG, None, spot, spot + 1)


def note_at(text, spot):
    end = find_byte(text, NOTE_END, spot)
    note = tuple(text[spot + 1:end])
    if end == len(text) or not is_note(note):
        return wrong_at(spot)
    return Token(NOTE, note, spot, end + 1)


def head_at(text, spot):
    name_end = find_byte(text, BLANK, spot)
    value_begin = name_end + 2
    value_end = find_byte(text, QUOTE, value_begin)
    name = tuple(text[spot + 1:name_end])
    value = tuple(text[value_begin:value_end])
    if text[name_end:value_begin] != [BLANK, QUOTE] or text[value_end:value_end + 2] != [QUOTE, HEAD_END]:
        return wrong_at(spot)
    if not is_head_name(name) or not is_head_value(value):
        return wrong_at(spot)
    return Token(HEAD, (name, value), spot, value_end + 2)


def word_at(text, spot):
    end = spot
    while end < len(text) and text[end] not in WORD_STOPS:
        end += 1
    word = read_word(signs_of(text[spot:end]))
    return Token(word[0], word[1], spot, end)


# Where the byte stands first from here on; if nowhere, where the text ends or this spot behind it.
def find_byte(text, byte, spot):
    while spot < len(text) and text[spot] != byte:
        spot += 1
    return spot
