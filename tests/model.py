"""The document read a second time, in another way, to hold the program against: nested lists, patterns, recursion."""

import copy
import re

MOST = 10 ** 9
TOKEN = re.compile(r'[()<>]|\{[ -z|~]{0,200}\}|\[([A-Za-z]{1,20}) "([ !#-~]{0,100})"\]|[^ \n()<>{}\[\]]+')
MOVE = re.compile(r"(?:([a-h])([1-9][0-9]{0,9})([a-h])?|--)(!!|\?\?|!\?|\?!|!|\?)?")
ENDS = [None, "!", "?", "!!", "??", "!?", "?!"]
RESULTS = ["*", "1-0", "0-1", "1/2"]


class Wrong(Exception):
    pass


def move_of(word):
    found = MOVE.fullmatch(word)
    if not found or int(found[2] or 1) > MOST:
        return None
    return word[:len(word) - len(found[4] or "")], [ENDS.index(found[4])] if found[4] else []


def split_tokens(text):
    spot = 0
    while True:
        while spot < len(text) and text[spot] in " \n":
            spot += 1
        if spot == len(text):
            break
        found = TOKEN.match(text, spot)
        if not found:
            yield spot, "?wrong"
            return
        yield spot, found[0]
        spot = found.end()
    yield spot, ""


class Parser:
    def __init__(self, text):
        self.tokens = list(split_tokens(text))
        self.at = 0

    def wrong(self, at=None):
        raise Wrong(self.tokens[self.at if at is None else at][0] + 1)

    def word(self):
        return self.tokens[self.at][1]

    def record(self):
        heads = {}
        while self.word().startswith("["):
            found = TOKEN.fullmatch(self.word())
            if found[1] in heads or len(heads) == 20:
                self.wrong()
            heads[found[1]] = found[2]
            self.at += 1
        items = self.line(0, 0)
        if self.word() not in RESULTS:
            self.wrong()
        result = RESULTS.index(self.word())
        self.at += 1
        if self.word() != "":
            self.wrong()
        return {"heads": heads, "items": items, "result": result}

    def line(self, ply, deep):
        items = []
        own = 0
        while True:
            word = self.word()
            number = re.fullmatch(r"(0|[1-9][0-9]*)(\.|\.\.\.)", word)
            if number:
                if word != f"{ply // 2 + 1}" + [".", "..."][ply % 2] or not move_of(self.tokens[self.at + 1][1]):
                    self.wrong()
            elif move_of(word):
                text, marks = move_of(word)
                items.append(["move", text, marks])
                own += 1
                ply += 1
            elif re.fullmatch(r"\$(0|[1-9][0-9]{0,2})", word) and int(word[1:]) < 256:
                if not items or items[-1][0] != "move" or len(items[-1][2]) == 4:
                    self.wrong()
                items[-1][2].append(int(word[1:]))
            elif word.startswith("{"):
                items.append(["note", word])
            elif word in ("(", "<"):
                if deep == 40 or (word == "(" and not own):
                    self.wrong()
                self.at += 1
                inner, inner_own = self.line_in(ply - (word == "("), deep + 1)
                if not inner_own or self.word() != {"(": ")", "<": ">"}[word]:
                    self.wrong()
                items.append([word, inner])
            else:
                return items
            self.at += 1

    def line_in(self, ply, deep):
        items = self.line(ply, deep)
        return items, any(item[0] == "move" for item in items)


def parse(text):
    """The record, or a place."""
    if len(text) > 8192:
        return 8193
    try:
        return Parser(text).record()
    except Wrong as wrong:
        return wrong.args[0]


def words(items, ply):
    for spot, item in enumerate(items):
        if item[0] == "move":
            if ply % 2 == 0 or spot == 0 or items[spot - 1][0] != "move":
                yield f"{ply // 2 + 1}" + [".", "..."][ply % 2]
            yield item[1]
            yield from (f"${mark}" for mark in item[2])
            ply += 1
        elif item[0] == "note":
            yield item[1]
        else:
            yield item[0]
            yield from words(item[1], ply - (item[0] == "("))
            yield {"(": ")", "<": ">"}[item[0]]


def one_text(record):
    rows = [""]
    for number, word in enumerate([*words(record["items"], 0), RESULTS[record["result"]]]):
        if number == 0:
            rows[-1] = word
        elif len(rows[-1] + " " + word) <= 72:
            rows[-1] += " " + word
        else:
            rows.append(word)
    heads = [f'[{name} "{value}"]' for name, value in record["heads"].items()]
    return "\n".join(heads + rows) + "\n"


def deepness(items):
    return max([1 + deepness(item[1]) for item in items if item[0] in "(<"], default=0)


def fits(record):
    return len(one_text(record)) <= 8192 and deepness(record["items"]) <= 40


def all_items(items):
    for item in items:
        yield item
        if item[0] in "(<":
            yield from all_items(item[1])


def read(text):
    record = parse(text)
    if isinstance(record, int):
        return [0, record]
    items = record["items"]
    moves = [item for item in items if item[0] == "move"]
    return [1, len(record["heads"]), record["result"], len(moves), len(list(all_items(items))), deepness(items)]


def shown(record):
    text = one_text(record)
    return [-4] if len(text) > 8192 else [0] + [ord(sign) for sign in text]


def form(text):
    record = parse(text)
    return [-2] if isinstance(record, int) else shown(record)


def play(position, text):
    """The position behind the move; None if it isn't allowed. A position is (ply, passed, heaps)."""
    ply, passed, heaps = position
    if not any(heaps):
        return None
    heaps = list(heaps)
    if text == "--":
        if ply % 2 in passed:
            return None
        return ply + 1, passed | {ply % 2}, heaps
    found = MOVE.fullmatch(text)
    source, n = ord(found[1]) - 97, int(found[2])
    if source >= len(heaps) or n > heaps[source]:
        return None
    heaps[source] -= n
    if found[3]:
        target = ord(found[3]) - 97
        if target >= len(heaps) or target == source or heaps[source] == 0 or heaps[target]:
            return None
        heaps[target] = n
    return ply + 1, passed, heaps


def follow(position, items):
    """The position at the line's end; None if any move isn't allowed."""
    trail = [position]
    for item in items:
        if item[0] == "move":
            trail.append(play(trail[-1], item[1]))
            if trail[-1] is None:
                return None
        elif item[0] == "(" and follow(trail[-2], item[1]) is None:
            return None
        elif item[0] == "<" and follow(trail[-1], item[1]) is None:
            return None
    return trail[-1]


def start(record):
    value = record["heads"].get("Heaps", "")
    if not re.fullmatch(r"(0|[1-9][0-9]*)( (0|[1-9][0-9]*)){0,7}", value):
        return None
    heaps = [int(piece) for piece in value.split(" ")]
    return None if max(heaps) > MOST else (0, frozenset(), heaps)


def end(record):
    """The position at the end of a legal record's main line, else None."""
    position = start(record) and follow(start(record), record["items"])
    if position and position[0] and not any(position[2]) and record["result"] != 2 - position[0] % 2:
        return None
    return position


def row_of(position):
    ply, passed, heaps = position
    return [ply, ply % 2, int(0 in passed), int(1 in passed), *heaps]


def game_row(record):
    return row_of(end(record))


def trail(position, items):
    """Each move of the items in the order in which they're written, as the position behind it; None if not allowed."""
    before = behind = position
    for item in items:
        if item[0] == "move":
            before, behind = behind, behind and play(behind, item[1])
            yield behind
        elif item[0] in "(<":
            yield from trail(before if item[0] == "(" else behind, item[1])


def judge(text):
    record = parse(text)
    if isinstance(record, int):
        return [-2]
    if start(record) is None:
        return [0, 1]
    behind = list(trail(start(record), record["items"]))
    if None in behind:
        return [0, 2, 1 + behind.index(None)]
    return [0, 3] if end(record) is None else [0, 0] + game_row(record)


def main(text):
    record = parse(text)
    if isinstance(record, int):
        return [-2]
    moves = [["move", item[1], []] for item in record["items"] if item[0] == "move"]
    return shown({**record, "items": moves})


def positions(record):
    """At the beginning and behind each move; None among them where a move isn't allowed, or there are no heaps."""
    return [start(record), *(trail(start(record), record["items"]) if start(record) else [])]


def walk(k, text):
    record = parse(text)
    refusals = [-1] if not 0 <= k <= MOST else []
    if isinstance(record, int):
        return [max(refusals + [-2])]
    found = positions(record)
    refusals += [-6] if None in found else [-3] if k >= len(found) else []
    return [max(refusals)] if refusals else [0] + row_of(found[k])


def places(text):
    record = parse(text)
    if isinstance(record, int):
        return [-2]
    found = positions(record)
    if None in found:
        return [-6]
    return [0, len({(ply % 2, passed, *heaps) for ply, passed, heaps in found}), len(found) - 1]


class Game:
    """One method a call, with texts as texts. Each tries all refusals and takes the one nearest to 0."""

    def __init__(self):
        self.record = None
        self.asked = (0, 0, 0)

    def going(self):
        return self.record is not None and self.record["result"] == 0

    def changed(self, change):
        """A copy of the record with the change; None if there is no record."""
        if self.record is None:
            return None
        record = copy.deepcopy(self.record)
        change(record)
        return record

    def answer(self, refusals, record, asked, more):
        due = [number for number, is_due in refusals.items() if is_due]
        if record is not None and not fits(record):
            due.append(-4)
        if due:
            return [max(due)]
        self.record = self.record if record is None else record
        self.asked = self.asked if asked is None else asked
        return [0] + more()

    def begin(self, heaps):
        wrong = not 1 <= len(heaps) <= 8 or any(not 0 <= heap <= MOST for heap in heaps) or not any(heaps)
        record = {"heads": {"Heaps": " ".join(map(str, heaps))}, "items": [], "result": 0}
        return self.answer({-1: wrong}, None if wrong else record, (0, 0, 0), list)

    def head(self, name, value):
        wrong = not re.fullmatch(r"[A-Za-z]{1,20}", name) or not re.fullmatch(r"[ !#-~]{0,100}", value) or name == "Heaps"
        record = self.changed(lambda new: new["heads"].update({name: value}))
        many = record is not None and len(record["heads"]) > 20
        return self.answer({-1: wrong, -3: record is None, -4: many}, record, None, lambda: [len(self.record["heads"])])

    def move(self, side, text):
        found = move_of(text)
        refusals = {-1: side not in (0, 1), -2: not found or found[1], -3: not self.going() or self.asked[0]}
        if any(refusals.values()):
            return self.answer(refusals, None, None, list)
        position = end(self.record)
        behind = play(position, text)
        refusals.update({-5: position[0] % 2 != side, -6: behind is None})
        record = self.changed(lambda new: new["items"].append(["move", text, []]))
        if not refusals[-5] and behind and not any(behind[2]):
            record["result"] = 1 + side
        return self.answer(refusals, record, None, lambda: game_row(self.record))

    def note(self, text):
        wrong = not re.fullmatch(r"[ -z|~]{0,200}", text)
        record = self.changed(lambda new: new["items"].append(["note", "{" + text + "}"]))
        return self.answer({-1: wrong, -3: record is None}, record, None, list)

    def mark(self, n):
        items = self.record["items"] if self.record else []
        taken = not items or items[-1][0] != "move" or len(items[-1][2]) == 4
        record = None if taken else self.changed(lambda new: new["items"][-1][2].append(n))
        return self.answer({-1: not 0 <= n < 256, -3: not self.record, -4: taken}, record, None, list)

    def own_moves(self):
        return [spot for spot, item in enumerate(self.record["items"]) if item[0] == "move"] if self.record else []

    def back(self, side, k):
        wrong = side not in (0, 1) or not 1 <= k <= MOST
        late = not self.going() or self.asked[0] or len(self.own_moves()) < k
        return self.answer({-1: wrong, -3: late}, None, (1, side, k), list)

    def even(self, side):
        return self.answer({-1: side not in (0, 1), -3: not self.going() or self.asked[0]}, None, (2, side, 0), list)

    def yes(self, side):
        kind, asker, k = self.asked

        def change(new):
            if kind == 2:
                new["result"] = 3
            else:
                cut = self.own_moves()[-k]
                new["items"][cut:] = [["<", new["items"][cut:]]]
        refusals = {-1: side not in (0, 1), -3: not kind, -5: side == asker}
        return self.answer(refusals, self.changed(change) if kind else None, (0, 0, 0), lambda: game_row(self.record))

    def no(self, side):
        refusals = {-1: side not in (0, 1), -3: not self.asked[0], -5: side == self.asked[1]}
        return self.answer(refusals, None, (0, 0, 0), list)

    def withdraw(self, side):
        refusals = {-1: side not in (0, 1), -3: not self.asked[0], -5: side != self.asked[1]}
        return self.answer(refusals, None, (0, 0, 0), list)

    def resign(self, side):
        wrong = side not in (0, 1)
        record = self.changed(lambda new: new.update({"result": 2 - side})) if self.going() and not wrong else None
        return self.answer({-1: wrong, -3: not self.going()}, record, (0, 0, 0), list)

    def state(self):
        return self.answer({-3: not self.record}, None, None,
                           lambda: [self.record["result"], *self.asked, *game_row(self.record)])

    def print(self):
        return self.answer({-3: not self.record}, None, None, lambda: [ord(sign) for sign in one_text(self.record)])

    def load(self, text):
        record = parse(text)
        if isinstance(record, int):
            return [-2]
        illegal = end(record) is None or not any(start(record)[2])
        return self.answer({-6: illegal}, record, (0, 0, 0), lambda: game_row(self.record))
