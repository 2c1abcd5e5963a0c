"""A game that is going on: one list of calls, and what they answer."""

from gamerecord.heaps import MOST, MOST_HEAPS
from gamerecord.heaps import first_position, game_row, is_allowed, is_over, position_after, side_to_move
from gamerecord.judging import HEAPS_NAME, heaps_of, is_heaps_name, legal_end, trail_of
from gamerecord.onetext import fits, one_text
from gamerecord.reading import read_if_record
from gamerecord.record import EVEN, GOES_ON, MOST_HEADS, MOVE, NOTE
from gamerecord.record import Record, can_take_mark, main_move_spots, won_by
from gamerecord.record import with_head, with_item, with_mark, with_moves_back, with_result
from gamerecord.replies import AGAINST_RULES, DONE, NO_PLACE, NO_TEXT, NOT_NOW, NOT_THAT_SIDE, WRONG_FORM
from gamerecord.signs import bytes_of, is_head_name, is_head_value, is_note, signs_of
from gamerecord.words import MOST_MARK, read_move

NOTHING = 0
TO_TAKE_BACK = 1
TO_CALL_EVEN = 2


# The state. Without a game there are no record and no position.
class Game:
    def __init__(self):
        self.record = None
        self.position = None
        self.asked = NOTHING
        self.asker = 0
        self.moves_asked = 0


def is_side(number):
    return number in (0, 1)


def goes_on(game):
    return game.record is not None and game.record.result == GOES_ON


def ask(game, wish, side, moves):
    game.asked = wish
    game.asker = side
    game.moves_asked = moves
    return [DONE]


def ask_nothing(game):
    return ask(game, NOTHING, 0, 0)


def set_game(game, record, position):
    game.record = record
    game.position = position
    ask_nothing(game)


# Answers for calls that change the record, but not the position.
def keep_if_fits(game, record):
    if not fits(record):
        return [NO_PLACE]
    game.record = record
    return [DONE]


def call_begin(game, numbers, rows):
    heaps = rows[0]
    if not 1 <= len(heaps) <= MOST_HEAPS or max(heaps) == 0:
        return [WRONG_FORM]
    if min(heaps) < 0 or max(heaps) > MOST:
        return [WRONG_FORM]
    value = bytes_of(" ".join([str(heap) for heap in heaps]))
    head = (tuple(bytes_of(HEAPS_NAME)), tuple(value))
    set_game(game, Record([head], [], GOES_ON), first_position(heaps))
    return [DONE]


def call_head(game, numbers, rows):
    name = tuple(rows[0])
    value = tuple(rows[1])
    if not is_head_name(name) or not is_head_value(value) or is_heaps_name(name):
        return [WRONG_FORM]
    if game.record is None:
        return [NOT_NOW]
    record = with_head(game.record, name, value)
    if len(record.heads) > MOST_HEADS:
        return [NO_PLACE]
    answer = keep_if_fits(game, record)
    return answer + [len(record.heads)] if answer == [DONE] else answer


def call_move(game, numbers, rows):
    side = numbers[0]
    if not is_side(side):
        return [WRONG_FORM]
    move = read_move(signs_of(rows[0]))
    if move is None:
        return [NO_TEXT]
    if not goes_on(game) or game.asked != NOTHING:
        return [NOT_NOW]
    return play(game, side, move)


def play(game, side, move):
    is_turn = side == side_to_move(game.position)
    allowed = is_allowed(game.position, move)
    record = with_item(game.record, (MOVE, move, ()))
    position = game.position
    if is_turn and allowed:
        position = position_after(position, move)
        if is_over(position):
            record = with_result(record, won_by(side))
    if not fits(record):
        return [NO_PLACE]
    if not is_turn:
        return [NOT_THAT_SIDE]
    if not allowed:
        return [AGAINST_RULES]
    set_game(game, record, position)
    return [DONE] + game_row(position)


def call_note(game, numbers, rows):
    if not is_note(rows[0]):
        return [WRONG_FORM]
    if game.record is None:
        return [NOT_NOW]
    return keep_if_fits(game, with_item(game.record, (NOTE, tuple(rows[0]))))


def call_mark(game, numbers, rows):
    mark = numbers[0]
    if not 0 <= mark <= MOST_MARK:
        return [WRONG_FORM]
    if game.record is None:
        return [NOT_NOW]
    if not can_take_mark(game.record.line):
        return [NO_PLACE]
    return keep_if_fits(game, with_mark(game.record, mark))


def call_back(game, numbers, rows):
    side = numbers[0]
    moves = numbers[1]
    if not is_side(side) or not 1 <= moves <= MOST:
        return [WRONG_FORM]
    if not goes_on(game) or game.asked != NOTHING:
        return [NOT_NOW]
    if len(main_move_spots(game.record.line)) < moves:
        return [NOT_NOW]
    return ask(game, TO_TAKE_BACK, side, moves)


def call_even(game, numbers, rows):
    if not is_side(numbers[0]):
        return [WRONG_FORM]
    if not goes_on(game) or game.asked != NOTHING:
        return [NOT_NOW]
    return ask(game, TO_CALL_EVEN, numbers[0], 0)


def call_yes(game, numbers, rows):
    if not is_side(numbers[0]):
        return [WRONG_FORM]
    if game.asked == NOTHING:
        return [NOT_NOW]
    record = agreed_record(game)
    if not fits(record):
        return [NO_PLACE]
    if numbers[0] == game.asker:
        return [NOT_THAT_SIDE]
    position = trail_of(record).end
    set_game(game, record, position)
    return [DONE] + game_row(position)


# The record as it would be by what is asked.
def agreed_record(game):
    if game.asked == TO_CALL_EVEN:
        return with_result(game.record, EVEN)
    return with_moves_back(game.record, game.moves_asked)


def call_no(game, numbers, rows):
    if not is_side(numbers[0]):
        return [WRONG_FORM]
    if game.asked == NOTHING:
        return [NOT_NOW]
    if numbers[0] == game.asker:
        return [NOT_THAT_SIDE]
    return ask_nothing(game)


def call_withdraw(game, numbers, rows):
    if not is_side(numbers[0]):
        return [WRONG_FORM]
    if game.asked == NOTHING:
        return [NOT_NOW]
    if numbers[0] != game.asker:
        return [NOT_THAT_SIDE]
    return ask_nothing(game)


def call_resign(game, numbers, rows):
    if not is_side(numbers[0]):
        return [WRONG_FORM]
    if not goes_on(game):
        return [NOT_NOW]
    record = with_result(game.record, won_by(1 - numbers[0]))
    if not fits(record):
        return [NO_PLACE]
    set_game(game, record, game.position)
    return [DONE]


def call_state(game, numbers, rows):
    if game.record is None:
        return [NOT_NOW]
    asked = [game.asked, game.asker, game.moves_asked]
    return [DONE, game.record.result] + asked + game_row(game.position)


def call_print(game, numbers, rows):
    if game.record is None:
        return [NOT_NOW]
    return [DONE] + one_text(game.record)


def call_load(game, numbers, rows):
    record = read_if_record(rows[0])
    if record is None:
        return [NO_TEXT]
    if not fits(record):
        return [NO_PLACE]
    position = legal_end(record)
    if position is None or max(heaps_of(record)) == 0:
        return [AGAINST_RULES]
    set_game(game, record, position)
    return [DONE] + game_row(position)


# Each call by its number: what does it, how many whole numbers and how many rows it is told.
CALLS = (
    (call_begin, 0, 1),
    (call_head, 0, 2),
    (call_move, 1, 1),
    (call_note, 0, 1),
    (call_mark, 1, 0),
    (call_back, 2, 0),
    (call_even, 1, 0),
    (call_yes, 1, 0),
    (call_no, 1, 0),
    (call_withdraw, 1, 0),
    (call_resign, 1, 0),
    (call_state, 0, 0),
    (call_print, 0, 0),
    (call_load, 0, 1),
)


# For each call of the list, in order: how many numbers are answered, and these.
def answers(calls):
    game = Game()
    given = []
    spot = 0
    while spot < len(calls):
        call = CALLS[calls[spot]]
        rows_begin = spot + 1 + call[1]
        numbers = calls[spot + 1:rows_begin]
        rows = rows_at(calls, rows_begin, call[2])
        spot = rows_begin + sum([1 + len(row) for row in rows])
        answer = call[0](game, numbers, rows)
        given.append(len(answer))
        given.extend(answer)
    return given


# So many rows, each with its length before it, from this spot of the list on.
def rows_at(calls, spot, how_many):
    rows = []
    while len(rows) < how_many:
        begin = spot + 1
        end = begin + calls[spot]
        rows.append(calls[begin:end])
        spot = end
    return rows
