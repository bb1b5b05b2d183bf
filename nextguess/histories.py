"""Values as texts, and desks as texts of all that was done with them, judged and led through again."""

from nextguess.desk import Desk
from nextguess.errors import InvalidText
from nextguess.lines import Lines
from nextguess.moves import is_move
from nextguess.questions import claim_holds, is_question
from nextguess.scans import Scan, value_of
from nextguess.texts import rules_ahead, write_rules

QUOTE = '"'
WITH_VALUE = ("watch", "leave", "move")
ALONE = ("undo", "redo")
PAPER = "paper "


def told(value):
    """Return the text of a value made of tuples, integers and words."""
    if isinstance(value, tuple):
        return "(" + "".join([told(member) + "," for member in value]) + ")"
    return QUOTE + value + QUOTE if isinstance(value, str) else str(value)


def untold(text):
    """Return the value whose text this is."""
    scan = Scan(text)
    value = value_of(scan)
    if value is None:
        raise InvalidText(text, scan.at)
    return value


def deed_line(word, value):
    """Return the line of what was done."""
    return word if value is None else f"{word} {told(value)}"


def claim_line(claim):
    """Return the line of a claim."""
    return f"claim {told(claim)}"


def write_history(desk):
    """Return the text of the desk: the list that it was made with, then all that was done."""
    lines = [write_rules(desk.first())]
    for word, value, answers in desk.deeds():
        lines.append(deed_line(word, value))
        for claim, paper in answers:
            lines.extend([claim_line(claim), PAPER + told(paper)])
    return "\n".join(lines)


def value_told(text):
    """Return the value whose text this is, None if it is another string."""
    return value_of(Scan(text))


def deed_told(line):
    """Return the word and the value of what a line tells to do, the value None where it tells none; else None."""
    if line in ALONE:
        return (line, None)
    word, _, rest = line.partition(" ")
    # None is neither a question nor a move, so nothing can be done with it.
    return (word, value_told(rest)) if word in WITH_VALUE else None


def paper_told(line):
    """Return the paper that a line tells, None if it tells none."""
    return value_told(line[len(PAPER):]) if line.startswith(PAPER) else None


def can_be_done(desk, word, value):
    """Tell whether this can be done, and would be written down."""
    if word == "watch":
        return is_question(desk.now(), value) and value not in desk.watched()
    if word == "leave":
        return value in desk.watched()
    if word == "move":
        return is_move(desk.now(), value)
    return len(desk.done()) > 0 if word == "undo" else desk.can_redo()


def do_deed(desk, word, value):
    """Do it, and return the questions of which claims and papers stand behind it."""
    if word == "watch":
        desk.watch(value)
        return (value,)
    if word == "leave":
        desk.leave(value)
        return ()
    if word == "move":
        desk.move(value)
    elif word == "undo":
        desk.undo()
    else:
        desk.redo()
    return desk.watched()


def takes_papers(desk, questions, lines):
    """Let the desk keep the papers in the lines ahead, and tell whether they are right."""
    for question in questions:
        claim = desk.claim(question)
        if lines.ahead() != claim_line(claim):
            return False
        lines.take()
        paper = paper_told(lines.ahead())
        if not claim_holds(desk.now(), question, claim, paper):
            return False
        lines.take()
        desk.keep(question, paper)
    return True


def leads_on(desk, lines):
    """Do what the lines ahead tell, up to the next that is to be done, and tell whether they are right."""
    deed = deed_told(lines.ahead())
    if deed is None:
        return False
    word, value = deed
    if not can_be_done(desk, word, value):
        return False
    lines.take()
    return takes_papers(desk, do_deed(desk, word, value), lines)


def led_through(lines):
    """Return a desk that was led through the lines; None if one is wrong or lacking, which is then ahead."""
    rules = rules_ahead(lines)
    if rules is None:
        return None
    desk = Desk(rules)
    while not lines.ended():
        if not leads_on(desk, lines):
            return None
    return desk


def history_holds(text):
    """Tell whether the text is the history of some desk, whatever papers that hold stand in it."""
    return led_through(Lines(text)) is not None


def relived(text):
    """Return a desk that was led through the history, and keeps its papers."""
    lines = Lines(text)
    desk = led_through(lines)
    if desk is None:
        raise InvalidText(text, lines.place())
    return desk
