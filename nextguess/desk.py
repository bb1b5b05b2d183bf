"""A desk on which a list lies: it is moved, moves are undone and done again, questions are watched."""

from nextguess.errors import InvalidMove, InvalidQuestion, InvalidRules, NothingToUndo
from nextguess.lists import Rules
from nextguess.moves import is_move, moved
from nextguess.questions import answer_of, claim_holds, demand_question, is_question, paper_of


def renewed(rules, question, claim, paper):
    """Return what has become of a claim and its paper, in a word, and the claim and the paper that stand now."""
    answer = answer_of(rules, question)
    if answer != claim:
        return "changed", answer, paper_of(rules, question)
    if claim_holds(rules, question, claim, paper):
        return "kept", claim, paper
    return "renewed", claim, paper_of(rules, question)


class Desk:
    """A list that is moved, what of its moves can be undone and done again, and the questions that are watched.

    All that is done with it is written down, with the claims and papers that it comes to.
    """

    def __init__(self, rules):
        if not isinstance(rules, Rules):
            raise InvalidRules(rules)
        self._first = rules
        self._rules = rules
        self._done = []
        self._undone = []
        self._answers = {}
        self._deeds = []

    def now(self):
        """Return the list that lies on the desk."""
        return self._rules

    def move(self, move):
        """Do a move, and return what has become of the watched questions."""
        if not is_move(self._rules, move):
            raise InvalidMove(move)
        self._undone = []
        self._lead(move)
        return self._report("move", move)

    def undo(self):
        """Undo the last move, and return what has become of the watched questions."""
        if len(self._done) == 0:
            raise NothingToUndo("undo")
        move, self._rules = self._done.pop()
        self._undone.append(move)
        return self._report("undo", None)

    def redo(self):
        """Do the move again that was undone last, and return what has become of the watched questions."""
        if len(self._undone) == 0:
            raise NothingToUndo("redo")
        self._lead(self._undone.pop())
        return self._report("redo", None)

    def done(self):
        """Return the moves that are done and not undone."""
        return tuple([move for move, _ in self._done])

    def watch(self, question):
        """Watch the question, and return its claim."""
        demand_question(self._rules, question)
        if question not in self._answers:
            self._answers[question] = (answer_of(self._rules, question), paper_of(self._rules, question))
            self._write_down("watch", question, [question])
        return self._answers[question][0]

    def leave(self, question):
        """Watch the question no longer."""
        self._demand_watched(question)
        del self._answers[question]
        self._write_down("leave", question, [])

    def watched(self):
        """Return the watched questions in order."""
        return tuple(list(self._answers))

    def claim(self, question):
        """Return the claim of a watched question."""
        self._demand_watched(question)
        return self._answers[question][0]

    def paper_for(self, question):
        """Return the paper that is kept of a watched question."""
        self._demand_watched(question)
        return self._answers[question][1]

    def first(self):
        """Return the list with which the desk was made."""
        return self._first

    def can_redo(self):
        """Tell whether a move is there that can be done again."""
        return len(self._undone) > 0

    def deeds(self):
        """Return all that was done: the word, the value or None, and the claims and papers behind it."""
        return tuple([(word, value, tuple(answers.values())) for word, value, answers in self._deeds])

    def keep(self, question, paper):
        """Keep this paper, which holds, in place of the one that the last deed came to."""
        answer = (self._answers[question][0], paper)
        self._answers[question] = answer
        self._deeds[-1][2][question] = answer

    def _demand_watched(self, question):
        """Raise InvalidQuestion unless the question is watched."""
        # True and False would be found as 1 and 0, so the form is asked first.
        if not is_question(self._rules, question) or question not in self._answers:
            raise InvalidQuestion(question)

    def _lead(self, move):
        """Move the list, and remember from where."""
        self._done.append((move, self._rules))
        self._rules = moved(self._rules, move)

    def _report(self, word, value):
        """Renew claims and papers behind a deed, write it down, and return what has become of them."""
        report = []
        for question in list(self._answers):
            claim, paper = self._answers[question]
            became, claim, paper = renewed(self._rules, question, claim, paper)
            self._answers[question] = (claim, paper)
            report.append((question, became, claim))
        self._write_down(word, value, list(self._answers))
        return tuple(report)

    def _write_down(self, word, value, questions):
        """Write down a deed with the claims and papers of these questions."""
        self._deeds.append((word, value, {question: self._answers[question] for question in questions}))
