import random
from collections import Counter

from nextguess.desk import Desk
from nextguess.errors import InvalidMove, InvalidQuestion, InvalidRules, NothingToUndo
from nextguess.histories import write_history
from nextguess.lists import Rules
from nextguess.questions import answer_of, claim_holds
from tests.cases import Lists, is_made_of_tuples
from tests.desks import STEPS, Model, desk_lists, do_deed, is_move_by_hand, moved_by_hand, random_deed, state_of
from tests.samples import full, lots_by_hand, odd_values, rows_by_hand, scattered
from tests.test_questions import no_questions, questions_of

DIMENSION = ("dimension",)
MEAN = ("mean", (0, 1, 2))
MISSES = ("misses", (0, 2))


def no_moves(rules):
    """Values that are no move of a list of 3 points that has (0, 0, 0) and not (1, 0, 1)."""
    found = odd_values() + [
        "put", "turn", ("put",), ("turn",), ("turn", ()), ("turn", (0, 0)), ("turn", (0, 0, 0, 0)), ("turn", [0, 0, 0]), ["turn", (0, 0, 0)],
        ("turn", (0, 0, True)), ("turn", (False, 0, 0)), ("turn", (0, 0, 2)), ("turn", "000"), ("turn", None), ("Turn", (0, 0, 0)),
        ("turn", (0, 0, 0), ()), ("turned", (0, 0, 0)), ("", (0, 0, 0)), ("lay", (1, 0, 1)), ("put ", (1, 0, 1)), (None, (1, 0, 1)),
        ((1, 0, 1), "put"), ("put", (1, 0, 1), 1), ("put", [1, 0, 1]), ("put", (True, 0, 1)), ("put", (1, 0, True)), ("put", (1, 0)),
        ("put", (1, 0, 1, 0)), ("put", ((1, 0, 1),)), ("put", rules), ("drop", [0, 0, 0]), ("drop", (False, 0, 0)), ("drop", (0, 0)),
        ("drop", (0, 0, 0, 0)), ("drop", 0), ("undo",), ("undo", (0, 0, 0)), "undo", (("turn",), (0, 0, 0)), (["turn"], (0, 0, 0)),
        (rules, (0, 0, 0)), ("drop", rules),
    ]
    found += [("put", row) for row in rules.rows] + [("drop", row) for row in rows_by_hand(3) if row not in rules.rows]
    return found


class Laying(Lists):
    def test_a_new_desk(self):
        for rules in desk_lists():
            desk = Desk(rules)
            self.assertEqual(desk.now(), rules)
            self.assert_told(desk.done(), ())
            self.assert_told(desk.watched(), ())
            self.assert_raises_with(NothingToUndo, "word", "undo", desk.undo)
            self.assert_raises_with(NothingToUndo, "word", "redo", desk.redo)
        self.assertEqual(Desk(rules=STEPS).now(), STEPS)

    def test_no_list(self):
        for wrong in odd_values() + [STEPS.rows, (3, STEPS.rows), [STEPS], Desk(STEPS)]:
            if type(wrong) is not Rules:
                self.assert_raises_with(InvalidRules, "value", wrong, Desk, wrong)
                self.assert_raises_with(InvalidRules, "value", wrong, Desk, rules=wrong)

    def test_each_move(self):
        desk = Desk(STEPS)
        self.assertEqual(desk.move(("put", (1, 0, 1))), ())
        self.assert_rules(desk.now(), 3, sorted(STEPS.rows + ((1, 0, 1),)))
        self.assertEqual(desk.move(("drop", (0, 0, 0))), ())
        self.assert_rules(desk.now(), 3, [(0, 0, 1), (0, 1, 1), (1, 0, 1), (1, 1, 1)])
        self.assertEqual(desk.move(move=("turn", (0, 0, 1))), ())
        self.assert_rules(desk.now(), 3, [(0, 0, 0), (0, 1, 0), (1, 0, 0), (1, 1, 0)])
        self.assert_told(desk.done(), (("put", (1, 0, 1)), ("drop", (0, 0, 0)), ("turn", (0, 0, 1))))
        self.assert_rules(STEPS, 3, [(0, 0, 0), (0, 0, 1), (0, 1, 1), (1, 1, 1)])

    def test_every_move_of_every_list(self):
        for rules in [full(0), full(1), Rules(1, [(0,)]), full(2), Rules(2, [(0, 1), (1, 0)]), STEPS, Rules(3, [(0, 1, 0)])]:
            for word in ("put", "drop", "turn"):
                for row in rows_by_hand(rules.size):
                    desk, move = Desk(rules), (word, row)
                    if is_move_by_hand(rules, move):
                        self.assertEqual(desk.move(move), ())
                        self.assertEqual(desk.now(), moved_by_hand(rules, move))
                        self.assert_told(desk.done(), (move,))
                    else:
                        self.assert_raises_with(InvalidMove, "value", move, desk.move, move)
                        self.assertEqual(desk.now(), rules)

    def test_the_list_handed_in_stays(self):
        rows = [(0, 0), (1, 1)]
        rules = Rules(2, rows)
        desk = Desk(rules)
        rows.append((0, 1))
        desk.move(("put", (1, 0)))
        desk.move(("turn", (1, 0)))
        self.assert_rules(rules, 2, [(0, 0), (1, 1)])
        desk.undo()
        desk.undo()
        self.assertEqual(desk.now(), rules)


class Wrong(Lists):
    def busy_desk(self):
        """A desk with moves done and undone, and with questions watched."""
        desk = Desk(STEPS)
        desk.watch(MEAN)
        desk.watch(DIMENSION)
        desk.move(("put", (1, 0, 0)))
        desk.move(("turn", (0, 1, 1)))
        desk.move(("turn", (0, 1, 1)))
        desk.undo()
        desk.undo()
        return desk

    def test_no_move(self):
        desk = self.busy_desk()
        ahead, history = state_of(desk), write_history(desk)
        for wrong in no_moves(desk.now()):
            self.assert_raises_with(InvalidMove, "value", wrong, desk.move, wrong)
            self.assert_raises_with(InvalidMove, "value", wrong, desk.move, move=wrong)
            self.assertEqual((state_of(desk), write_history(desk)), (ahead, history))
        self.assertEqual(len(desk.redo()), 2)
        self.assertEqual(desk.done(), (("put", (1, 0, 0)), ("turn", (0, 1, 1))))

    def test_the_only_rule(self):
        desk = Desk(Rules(2, [(0, 1)]))
        self.assert_raises_with(InvalidMove, "value", ("drop", (0, 1)), desk.move, ("drop", (0, 1)))
        desk.move(("put", (1, 1)))
        desk.move(("drop", (0, 1)))
        self.assert_raises_with(InvalidMove, "value", ("drop", (1, 1)), desk.move, ("drop", (1, 1)))
        self.assert_rules(desk.now(), 2, [(1, 1)])

    def test_no_question(self):
        desk = self.busy_desk()
        ahead, history = state_of(desk), write_history(desk)
        for wrong in no_questions(3):
            for ask in (desk.watch, desk.leave, desk.claim, desk.paper_for):
                self.assert_raises_with(InvalidQuestion, "value", wrong, ask, wrong)
                self.assert_raises_with(InvalidQuestion, "value", wrong, ask, question=wrong)
            self.assertEqual((state_of(desk), write_history(desk)), (ahead, history))

    def test_not_watched(self):
        desk = self.busy_desk()
        ahead, history = state_of(desk), write_history(desk)
        for question in questions_of(STEPS) + [("mean", (False, 1, 2)), ("mean", (0, True, 2)), ("mean", [0, 1, 2]), ["dimension"]]:
            if not (question in desk.watched() and is_made_of_tuples(question)):
                for ask in (desk.leave, desk.claim, desk.paper_for):
                    self.assert_raises_with(InvalidQuestion, "value", question, ask, question)
        self.assertEqual((state_of(desk), write_history(desk)), (ahead, history))


class UndoAndRedo(Lists):
    def test_down_to_nothing_and_back(self):
        for rules in desk_lists():
            numbers, model, desk = random.Random(5), Model(rules), Desk(rules)
            while len(model.moves) < 12:
                move = (numbers.choice(["put", "drop", "turn"]), numbers.choice(rows_by_hand(rules.size)))
                if model.can("move", move):
                    model.do("move", move)
                    desk.move(move)
            self.assertEqual(desk.done(), tuple(model.moves))
            lists = model.lists[::-1]
            for k, wanted in enumerate(lists):
                self.assertEqual(desk.now(), wanted)
                self.assertEqual(desk.done(), tuple(model.moves[:12 - k]))
                if k < 12:
                    self.assertEqual(desk.undo(), ())
            self.assert_raises_with(NothingToUndo, "word", "undo", desk.undo)
            self.assertEqual(desk.now(), rules)
            for k, wanted in enumerate(model.lists):
                self.assertEqual(desk.now(), wanted)
                if k < 12:
                    self.assertEqual(desk.redo(), ())
            self.assert_raises_with(NothingToUndo, "word", "redo", desk.redo)
            self.assert_told(desk.done(), tuple(model.moves))

    def test_a_move_behind_an_undo(self):
        desk = Desk(STEPS)
        desk.move(("put", (1, 0, 0)))
        desk.move(("put", (1, 0, 1)))
        desk.undo()
        desk.move(("turn", (1, 1, 1)))
        self.assert_raises_with(NothingToUndo, "word", "redo", desk.redo)
        self.assert_told(desk.done(), (("put", (1, 0, 0)), ("turn", (1, 1, 1))))
        desk.undo()
        desk.undo()
        self.assertEqual(desk.now(), STEPS)
        self.assert_raises_with(NothingToUndo, "word", "undo", desk.undo)
        desk.redo()
        desk.redo()
        self.assert_told(desk.done(), (("put", (1, 0, 0)), ("turn", (1, 1, 1))))
        self.assert_raises_with(NothingToUndo, "word", "redo", desk.redo)

    def test_redo_behind_undo_of_some(self):
        desk = Desk(STEPS)
        moves = [("put", (1, 0, 0)), ("put", (1, 0, 1)), ("drop", (0, 0, 0))]
        for move in moves:
            desk.move(move)
        desk.undo()
        desk.undo()
        desk.redo()
        self.assert_told(desk.done(), tuple(moves[:2]))
        desk.undo()
        desk.undo()
        self.assert_told(desk.done(), ())
        for k in (1, 2, 3):
            desk.redo()
            self.assert_told(desk.done(), tuple(moves[:k]))

    def test_watching_and_leaving_end_nothing(self):
        desk = Desk(STEPS)
        desk.move(("put", (1, 0, 0)))
        desk.undo()
        desk.watch(MEAN)
        desk.watch(DIMENSION)
        desk.leave(MEAN)
        self.assertRaises(InvalidMove, desk.move, ("put", (0, 0, 0)))
        self.assertRaises(InvalidQuestion, desk.leave, MEAN)
        self.assertEqual(len(desk.redo()), 1)
        self.assert_told(desk.done(), (("put", (1, 0, 0)),))
        desk.watch(MEAN)
        desk.undo()
        self.assert_told(desk.watched(), (DIMENSION, MEAN))
        self.assert_raises_with(NothingToUndo, "word", "undo", desk.undo)
        self.assert_told(desk.watched(), (DIMENSION, MEAN))


class Watching(Lists):
    def test_claims_and_papers(self):
        desk = Desk(STEPS)
        self.assert_told(desk.watch(MEAN), ("mean", (3, 4)))
        self.assert_told(desk.watch(DIMENSION), ("dimension", 1))
        self.assert_told(desk.watch(question=MISSES), ("misses", 1))
        self.assert_told(desk.watched(), (MEAN, DIMENSION, MISSES))
        for question in desk.watched():
            self.assert_told(desk.claim(question), answer_of(STEPS, question))
            self.assertIs(claim_holds(STEPS, question, desk.claim(question), desk.paper_for(question)), True)
            self.assertTrue(is_made_of_tuples(desk.paper_for(question)))
        self.assert_told(desk.claim(question=MEAN), ("mean", (3, 4)))
        self.assertEqual(desk.paper_for(question=MEAN), desk.paper_for(MEAN))
        self.assertIsNone(desk.leave(DIMENSION))
        self.assert_told(desk.watched(), (MEAN, MISSES))
        self.assertIsNone(desk.leave(question=MEAN))
        self.assert_told(desk.watched(), (MISSES,))

    def test_watched_twice(self):
        desk = Desk(STEPS)
        desk.watch(MEAN)
        desk.watch(DIMENSION)
        ahead, history, paper = state_of(desk), write_history(desk), desk.paper_for(MEAN)
        self.assert_told(desk.watch(MEAN), ("mean", (3, 4)))
        self.assertEqual((state_of(desk), write_history(desk)), (ahead, history))
        self.assertIs(desk.paper_for(MEAN), paper)

    def test_left_and_watched_again_behind_the_others(self):
        desk = Desk(STEPS)
        for question in (MEAN, DIMENSION, MISSES):
            desk.watch(question)
        desk.leave(MEAN)
        self.assert_raises_with(InvalidQuestion, "value", MEAN, desk.leave, MEAN)
        desk.watch(MEAN)
        self.assert_told(desk.watched(), (DIMENSION, MISSES, MEAN))
        report = desk.move(("put", (1, 0, 0)))
        self.assertEqual([question for question, _, _ in report], [DIMENSION, MISSES, MEAN])

    def test_every_question(self):
        for rules in desk_lists()[:6]:
            desk = Desk(rules)
            for question in questions_of(rules):
                self.assert_told(desk.watch(question), answer_of(rules, question))
            self.assert_told(desk.watched(), tuple(questions_of(rules)))


class Reports(Lists):
    def test_a_report_by_hand(self):
        desk = Desk(Rules(2, [(0, 0), (0, 1)]))
        desk.watch(DIMENSION)
        desk.watch(("mean", (1,)))
        desk.watch(("misses", (0, 1)))
        self.assert_told(desk.move(("turn", (0, 0))), (
            (DIMENSION, "kept", ("dimension", 1)), (("mean", (1,)), "kept", ("mean", (1, 2))), (("misses", (0, 1)), "kept", ("misses", 1)),
        ))
        self.assert_told(desk.move(("put", (1, 0))), (
            (DIMENSION, "renewed", ("dimension", 1)), (("mean", (1,)), "kept", ("mean", (1, 2))),
            (("misses", (0, 1)), "renewed", ("misses", 1)),
        ))
        self.assert_told(desk.move(("drop", (0, 0)))[1:], (
            (("mean", (1,)), "kept", ("mean", (1, 2))), (("misses", (0, 1)), "changed", ("misses", 0)),
        ))
        desk.move(("drop", (0, 1)))
        self.assert_told(desk.claim(DIMENSION), ("dimension", 0))
        report = desk.undo()
        self.assert_told(report[0], (DIMENSION, "changed", ("dimension", 1)))
        self.assert_told(desk.redo()[0], (DIMENSION, "changed", ("dimension", 0)))

    def assert_reported(self, desk, model, before, report):
        """The report is what [29] tells, and the papers are kept as it says."""
        self.assertTrue(is_made_of_tuples(report))
        self.assertEqual([question for question, _, _ in report], list(model.papers))
        rules = model.rules()
        for question, word, claim in report:
            old_claim, old_paper = before[question]
            self.assertEqual(claim, answer_of(rules, question))
            if claim != old_claim:
                wanted = "changed"
            else:
                wanted = "kept" if claim_holds(rules, question, claim, old_paper) else "renewed"
            self.assertEqual(word, wanted)
            self.assertEqual(desk.claim(question), claim)
            if word == "kept":
                self.assertIs(desk.paper_for(question), old_paper)
            self.assertIs(claim_holds(rules, question, claim, desk.paper_for(question)), True)

    def test_desks_led_through_many_deeds(self):
        seen = Counter()
        for seed, rules in enumerate(desk_lists() * 4):
            numbers, model, desk = random.Random(seed), Model(rules), Desk(rules)
            for _ in range(60):
                word, value = random_deed(numbers, rules)
                if not model.can(word, value):
                    continue
                before = {question: (desk.claim(question), desk.paper_for(question)) for question in desk.watched()}
                report = do_deed(desk, word, value)
                model.do(word, value)
                self.assert_rules(desk.now(), rules.size, model.rules().rows)
                self.assert_told(desk.done(), tuple(model.moves))
                self.assert_told(desk.watched(), tuple(model.papers))
                if word in ("move", "undo", "redo"):
                    self.assert_reported(desk, model, before, report)
                    seen.update((word, min(place, 2), became) for place, (_, became, _) in enumerate(report))
                elif word == "watch":
                    self.assertEqual(report, answer_of(model.rules(), value))
                    self.assertIs(claim_holds(model.rules(), value, report, desk.paper_for(value)), True)
                else:
                    self.assertIsNone(report)
        for word in ("move", "undo", "redo"):
            for place in range(3):
                for became in ("kept", "renewed", "changed"):
                    self.assertGreater(seen[(word, place, became)], 0, (word, place, became))

    def test_before_is_just_ahead_of_the_call(self):
        # Behind an undo the paper of ahead of the move is not taken back where the one behind it holds.
        desk = Desk(Rules(2, [(0, 0), (0, 1)]))
        desk.watch(DIMENSION)
        first = desk.paper_for(DIMENSION)
        desk.move(("put", (1, 0)))
        behind = desk.paper_for(DIMENSION)
        self.assertIs(claim_holds(Rules(2, [(0, 0), (0, 1), (1, 0)]), DIMENSION, ("dimension", 1), first), False)
        self.assertEqual(desk.undo(), ((DIMENSION, "kept", ("dimension", 1)),))
        self.assertIs(desk.paper_for(DIMENSION), behind)

    def test_two_desks_in_turn(self):
        one, other = Desk(STEPS), Desk(STEPS)
        one.watch(MEAN)
        one.move(("put", (1, 0, 0)))
        self.assertEqual(other.now(), STEPS)
        self.assertEqual(other.watched(), ())
        other.watch(DIMENSION)
        other.move(("drop", (0, 0, 0)))
        one.undo()
        self.assertEqual(other.now(), Rules(3, STEPS.rows[1:]))
        self.assertEqual(one.now(), STEPS)
        self.assertEqual((one.watched(), other.watched()), ((MEAN,), (DIMENSION,)))
        self.assert_raises_with(NothingToUndo, "word", "redo", other.redo)
        self.assert_told(one.redo(), ((MEAN, "changed", ("mean", (4, 5))),))
        self.assert_told(other.undo(), ((DIMENSION, "renewed", ("dimension", 1)),))

    def test_desks_led_alike_tell_the_same(self):
        for rules in desk_lists()[3:]:
            desks = [Desk(rules), Desk(rules)]
            numbers = random.Random(3)
            model = Model(rules)
            for _ in range(40):
                word, value = random_deed(numbers, rules)
                if model.can(word, value):
                    model.do(word, value)
                    self.assertEqual(*[do_deed(desk, word, value) for desk in desks])
                    self.assertEqual(*[state_of(desk) for desk in desks])

    def test_sixty_moves_of_six_points(self):
        desk = Desk(scattered(6, 5))
        questions = [DIMENSION] + [(word, lot) for word in ("misses", "mean") for lot in lots_by_hand(6)[-2:]]
        for question in questions:
            desk.watch(question)
        numbers = random.Random(9)
        for _ in range(20):
            desk.move(("turn", numbers.choice(rows_by_hand(6))))
        for _ in range(20):
            desk.undo()
        for _ in range(20):
            report = desk.redo()
        self.assertEqual([question for question, _, _ in report], questions)
        for question in questions:
            self.assertIs(claim_holds(desk.now(), question, desk.claim(question), desk.paper_for(question)), True)
