"""Records held against the game."""

from gamerecord.heaps import MOST, MOST_HEAPS
from gamerecord.heaps import first_position, is_allowed, is_over, position_after, side_to_move
from gamerecord.record import CLOSED_BY, MOVE, NOTE, OPEN_OTHER
from gamerecord.record import won_by
from gamerecord.signs import bytes_of, numeral, signs_of

HEAPS_NAME = "Heaps"


def is_heaps_name(name):
    return list(name) == bytes_of(HEAPS_NAME)


# The heap sizes that the head Heaps tells; None if there is no such head as it must be.
def heaps_of(record):
    for head in record.heads:
        if is_heaps_name(head[0]):
            return read_heaps(head[1])
    return None


def read_heaps(value):
    heaps = [numeral(piece, MOST) for piece in signs_of(value).split(" ")]
    return heaps if len(heaps) <= MOST_HEAPS and min(heaps) >= 0 else None


# Where a record's moves lead. The positions stand at the beginning and behind each move, in the order in which
# the moves are written, up to the first one that isn't allowed; if there is one, the main line's end is None.
class Trail:
    def __init__(self, first):
        self.positions = [first]
        self.end = None


def follow(heaps, line):
    now = first_position(heaps)
    trail = Trail(now)
    before = now
    outer = []
    for item in line:
        if item[0] == MOVE:
            if not is_allowed(now, item[1]):
                return trail
            before = now
            now = position_after(now, item[1])
            trail.positions.append(now)
        elif item[0] in CLOSED_BY:
            outer.append((before, now))
            now = before if item[0] == OPEN_OTHER else now
        elif item[0] != NOTE:
            before = outer[-1][0]
            now = outer[-1][1]
            outer.pop()
    trail.end = now
    return trail


# None if there's no head Heaps as it must be.
def trail_of(record):
    heaps = heaps_of(record)
    return None if heaps is None else follow(heaps, record.line)


# Whether a main line that ends in this position may have the result.
def is_result_right(position, result):
    if position.ply == 0 or not is_over(position):
        return True
    return result == won_by(1 - side_to_move(position))


# The position at the main line's end of a legal record; None if it isn't legal.
def legal_end(record):
    trail = trail_of(record)
    if trail is None or trail.end is None or not is_result_right(trail.end, record.result):
        return None
    return trail.end


# All positions of the record's trail; None if there's no head Heaps as it must be, or a move isn't allowed.
def positions_of(record):
    trail = trail_of(record)
    return None if trail is None or trail.end is None else trail.positions
