"""Desks led through many deeds, and what DOC.md says of them written out by hand."""

import ast
import random

from nextguess.desk import Desk
from nextguess.errors import GuessError
from nextguess.lists import Rules
from nextguess.questions import answer_of, claim_holds, is_question
from nextguess.texts import write_rules
from tests.samples import exchanged_at, full, lots_by_hand, rows_by_hand, scattered

STEPS = Rules(3, [(0, 0, 0), (0, 0, 1), (0, 1, 1), (1, 1, 1)])
WRONG_DEEDS = [
    ("move", None), ("move", ("put",)), ("move", ("lay", (0,))), ("move", ["turn", (0,)]), ("move", ("drop", (True,))),
    ("watch", ("means", ())), ("watch", None), ("watch", ("mean", [])), ("leave", ("dimension", ())), ("leave", ("mean", (True,))), ("leave", 0),
]


def desk_lists():
    """Lists to lay on a desk."""
    return [full(0), full(1), Rules(1, [(1,)]), full(2), STEPS, scattered(3, 1), scattered(4, 3), scattered(5, 7, 2), scattered(6, 11, 5)]


def is_move_by_hand(rules, value):
    """Whether a value, made of tuples, integers and words alone, is a move that can be done."""
    if type(value) is not tuple or len(value) != 2 or value[0] not in ("put", "drop", "turn"):
        return False
    if type(value[1]) is not tuple or any(type(member) is not int for member in value[1]) or value[1] not in rows_by_hand(rules.size):
        return False
    if value[0] == "put":
        return value[1] not in rules.rows
    return value[0] == "turn" or value[1] in rules.rows and len(rules) > 1


def moved_by_hand(rules, move):
    word, row = move
    if word == "put":
        return Rules(rules.size, rules.rows + (row,))
    if word == "drop":
        return Rules(rules.size, [rule for rule in rules.rows if rule != row])
    return Rules(rules.size, [tuple(int(a != b) for a, b in zip(rule, row)) for rule in rules.rows])


class Model:
    """A desk by hand: the list, the moves done and undone, the papers of the watched questions."""

    def __init__(self, rules):
        self.lists = [rules]
        self.moves = []
        self.undone = []
        self.papers = {}

    def rules(self):
        return self.lists[-1]

    def can(self, word, value):
        """Whether the deed can be done, and changes something."""
        if word == "watch":
            return is_question(self.rules(), value) and value not in self.papers
        if word == "leave":
            return value in self.papers
        if word == "move":
            return is_move_by_hand(self.rules(), value)
        return len(self.moves if word == "undo" else self.undone) > 0

    def do(self, word, value):
        """Do the deed; the questions of which papers are then to be told."""
        if word == "watch":
            self.papers[value] = None
            return (value,)
        if word == "leave":
            del self.papers[value]
            return ()
        if word == "undo":
            self.lists.pop()
            self.undone.append(self.moves.pop())
        else:
            move = self.undone.pop() if word == "redo" else value
            self.lists.append(moved_by_hand(self.rules(), move))
            self.moves.append(move)
            if word == "move":
                self.undone = []
        return tuple(self.papers)


def call_of(desk, word, value):
    """The method of a deed with its arguments."""
    return (getattr(desk, word), () if word in ("undo", "redo") else (value,))


def do_deed(desk, word, value):
    call, arguments = call_of(desk, word, value)
    return call(*arguments)


def random_deed(numbers, rules):
    """A deed that may be done, or not."""
    word = numbers.choice(["move"] * 8 + ["undo"] * 4 + ["redo"] * 3 + ["watch"] * 3 + ["leave", "wrong"])
    if word == "wrong":
        return numbers.choice(WRONG_DEEDS)
    if word == "move":
        return (word, (numbers.choice(["put", "put", "drop", "turn"]), numbers.choice(rows_by_hand(rules.size))))
    if word in ("undo", "redo"):
        return (word, None)
    lot = numbers.choice(lots_by_hand(rules.size))
    return (word, numbers.choice([("dimension",), ("misses", lot), ("mean", lot)]))


def led_desk(rules, seed, many=25):
    """A desk led through so many deeds, of which some raise, and the text that tells those that do not."""
    numbers = random.Random(seed)
    desk, model, lines = Desk(rules), Model(rules), [write_rules(rules)]
    for _ in range(many):
        word, value = random_deed(numbers, rules)
        if not model.can(word, value):
            try:
                do_deed(desk, word, value)
            except GuessError:
                pass
            continue
        questions = model.do(word, value)
        do_deed(desk, word, value)
        lines.append(word if value is None else f"{word} {told_by_hand(value)}")
        for question in questions:
            lines.append(f"claim {told_by_hand(desk.claim(question))}")
            lines.append(f"paper {told_by_hand(desk.paper_for(question))}")
    return desk, "\n".join(lines)


def state_of(desk):
    """All that a desk tells of itself."""
    watched = desk.watched()
    return (desk.now(), desk.done(), watched, [desk.claim(question) for question in watched], [desk.paper_for(question) for question in watched])


def told_by_hand(value):
    if type(value) is tuple:
        return "(" + "".join(f"{told_by_hand(member)}," for member in value) + ")"
    return f'"{value}"' if type(value) is str else repr(value)


def can_be_told(value, deep=0):
    """Whether a value is made of tuples, integers and words as [31] tells."""
    if type(value) is tuple:
        return deep < 60 and all(can_be_told(member, deep + 1) for member in value)
    if type(value) is int:
        return abs(value) < 10 ** 40
    return type(value) is str and value != "" and set(value) <= set("abcdefghijklmnopqrstuvwxyz ")


def value_by_hand(text):
    """The value whose text this is, in a tuple of its own; an empty one of another string."""
    try:
        value = ast.literal_eval(text)
    except (ValueError, SyntaxError, MemoryError, RecursionError, TypeError):
        return ()
    return (value,) if can_be_told(value) and told_by_hand(value) == text else ()


def wrong_place(text):
    """The place at which a text is wrong as a history, by the words of DOC.md, None if it is right."""
    at, due, rows, model = 0, ["points"], [], None
    for line in text.split("\n"):
        word, _, rest = line.partition(" ")
        if due == ["points"]:
            if line not in [f"points {size}" for size in range(9)]:
                return at
            size, due = int(rest), []
        elif model is None and word == "rule" and rest in rule_words(size) and (not rows or rest > rows[-1]):
            rows.append(rest)
        elif due:
            rules, kind, question = model.rules(), due[0][0], due[0][1]
            values = value_by_hand(rest)
            if word != kind or not values:
                return at
            if kind == "claim" and values[0] != answer_of(rules, question):
                return at
            if kind == "paper" and not claim_holds(rules, question, answer_of(rules, question), values[0]):
                return at
            if kind == "paper":
                model.papers[question] = values[0]
            due = due[1:]
        else:
            if not rows:
                return at
            if model is None:
                model = Model(Rules(size, [tuple(map(int, row.strip("-"))) for row in rows]))
            values = value_by_hand(rest) if word in ("watch", "leave", "move") else (None,)
            if word not in ("watch", "leave", "move", "undo", "redo") or not values or (values[0] is None and line != word):
                return at
            if not model.can(word, values[0]):
                return at
            due = [(kind, question) for question in model.do(word, values[0]) for kind in ("claim", "paper")]
        at += len(line) + 1
    return None if rows and not due else len(text)


def rule_words(size):
    """What may stand behind "rule " of so many points."""
    return ["".join(map(str, row)) for row in rows_by_hand(size)] if size else ["-"]


def other_papers(rules, question, claim, paper):
    """Some papers of a claim that hold, besides the one told."""
    first, second = paper
    found = []
    if question[0] == "dimension":
        found += [(lot, second) for lot in lots_by_hand(rules.size) if len(lot) == len(first)]
        for place, bar in enumerate(second):
            found += [(first, exchanged_at(second, place, (row,))) for row in rows_by_hand(len(bar))]
    else:
        seen = rules.seen_at(question[1])
        values = [0, 1] if question[0] == "misses" else [(0, 1), (1, 3), (1, 2), (2, 3), (1, 1)]
        for place in range(len(first)):
            found += [(exchanged_at(first, place, (value,)), second) for value in values]
        numbers = range(len(seen))
        found += [(first, tuple(range(a, b))) for a in numbers for b in range(a, len(seen) + 1)]
    return [other for other in dict.fromkeys(found) if other != paper and claim_holds(rules, question, claim, other)]
