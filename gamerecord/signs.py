"""Bytes and signs: what numerals, notes and heads may be made of."""

MOST_NOTE_BYTES = 200
MOST_NAME_LETTERS = 20
MOST_VALUE_BYTES = 100

BLANK = 32
ROW_END = 10
QUOTE = 34
HEAD_BEGIN = 91
HEAD_END = 93
NOTE_BEGIN = 123
NOTE_END = 125

# Right words and the value of Heaps have these signs alone.
SIGNS = {
    32: " ", 33: "!", 36: "$", 42: "*", 45: "-", 46: ".", 47: "/",
    48: "0", 49: "1", 50: "2", 51: "3", 52: "4", 53: "5", 54: "6", 55: "7", 56: "8", 57: "9", 63: "?",
    97: "a", 98: "b", 99: "c", 100: "d", 101: "e", 102: "f", 103: "g", 104: "h",
}

# Stands for every other byte, so that a word with one can't be taken for a right one.
OTHER_SIGN = "#"


def signs_of(row):
    return "".join([SIGNS.get(byte, OTHER_SIGN) for byte in row])


def bytes_of(signs):
    return [ord(sign) for sign in signs]


# The number that a numeral up to most tells; -1 if it is no such numeral.
def numeral(signs, most):
    # The length goes first: Python doesn't turn thousands of digits into a number.
    if not signs.isdigit() or len(signs) > len(str(most)):
        return -1
    if signs[0] == "0" and len(signs) > 1:
        return -1
    number = int(signs)
    return number if number <= most else -1


def is_letter(byte):
    return 65 <= byte <= 90 or 97 <= byte <= 122


def is_shown(byte):
    return 32 <= byte <= 126


def is_note(row):
    if len(row) > MOST_NOTE_BYTES or NOTE_BEGIN in row or NOTE_END in row:
        return False
    return all([is_shown(byte) for byte in row])


def is_head_name(row):
    return 1 <= len(row) <= MOST_NAME_LETTERS and all([is_letter(byte) for byte in row])


def is_head_value(row):
    if len(row) > MOST_VALUE_BYTES or QUOTE in row:
        return False
    return all([is_shown(byte) for byte in row])
