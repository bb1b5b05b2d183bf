from nextguess.drawn import mean_holds, mean_paper
from nextguess.errors import InvalidQuestion
from nextguess.freedom import dimension, dimension_holds, free_lots
from nextguess.guesses import misses_holds
from nextguess.lists import Rules
from nextguess.lotwise import mean_at, misses_at
from nextguess.questions import answer_of, claim_holds, is_question, paper_of
from tests.byhand import densest_by_hand, figures, pair
from tests.cases import Lists, is_made_of_tuples
from tests.samples import full, larger_lists, lots_by_hand, no_lots, odd_values, scattered, small_lists, spoilt

STEPS = Rules(3, [(0, 0, 0), (0, 0, 1), (0, 1, 1), (1, 1, 1)])


def questions_of(rules):
    """All questions of a list."""
    return [("dimension",)] + [(word, lot) for word in ("misses", "mean") for lot in lots_by_hand(rules.size)]


def no_questions(size):
    """Values that are no question of a list of so many points, at least 2."""
    found = odd_values() + [
        "dimension", "misses", "mean", ["dimension"], ("dimension", ()), ("dimension", 1), ("dimension", "dimension"), ("Dimension",),
        ("dimensions",), ("dimension ",), (("dimension",),), ("misses",), ("mean",), ("misses", (0,), (1,)), ("mean", 0), ("mean", (0,), ()),
        ("means", (0,)), ("miss", (0,)), ("Mean", (0,)), ("", (0,)), ("chance", (0,)), (None, (0,)), ((0,), "mean"), ["mean", (0,)],
        ["misses", [0]], ("mean", "0"), ("misses", ("0",)), ("mean", ((0,),)), (("mean",), (0,)), (["mean"], (0,)), ("mean", (0, 1), 1),
    ]
    return found + [(word, lot) for word in ("misses", "mean") for lot in no_lots(size)]


def claims_of(rules, question):
    """Claims of all three words, right and wrong ones."""
    found = [("dimension", d) for d in range(rules.size + 2)] + [("misses", k) for k in range(5)]
    return found + [("mean", q) for q in [(0, 1), (1, 2), (2, 3), (3, 4), (1, 1), (3, 2), (2, 1), (16, 11)]] + [answer_of(rules, question)]


def judged_by_hand(rules, question, claim, paper):
    """What claim_holds is to tell, by the judges of [11], [14] and [15]."""
    if question[0] == "dimension":
        return dimension_holds(rules, claim, paper)
    return {"misses": misses_holds, "mean": mean_holds}[question[0]](rules.seen_at(question[1]), claim, paper)


class IsQuestion(Lists):
    def test_right_ones(self):
        for rules in (full(0), full(1), STEPS, scattered(4, 3), full(6)):
            for question in questions_of(rules):
                self.assertIs(is_question(rules, question), True)
        self.assertIs(is_question(value=("mean", (0, 2)), rules=STEPS), True)

    def test_wrong_ones(self):
        for rules in (STEPS, full(3), Rules(3, [(0, 1, 1)])):
            for value in no_questions(3):
                self.assertIs(is_question(rules, value), False, value)
        for word in ("misses", "mean"):
            for lot in ((3,), (0, 3), (True,), (0, True), (False,), (1, 0), (1, 1), [0], [], (0, 1, 2, 3), (-1,), None):
                self.assertIs(is_question(STEPS, (word, lot)), False)
            self.assertIs(is_question(full(0), (word, (0,))), False)

    def test_spoilt_at_one_place(self):
        for question in questions_of(STEPS):
            for value in spoilt(question):
                if is_question(STEPS, value):
                    self.assertIn(value, questions_of(STEPS))
                    self.assertTrue(is_made_of_tuples(value))
                else:
                    self.assertFalse(is_made_of_tuples(value) and value in questions_of(STEPS), value)


class Answers(Lists):
    def test_small_examples(self):
        self.assert_told(answer_of(STEPS, ("dimension",)), ("dimension", 1))
        self.assert_told(answer_of(STEPS, ("misses", (0, 1, 2))), ("misses", 1))
        self.assert_told(answer_of(STEPS, ("mean", (0, 1, 2))), ("mean", (3, 4)))
        self.assert_told(answer_of(STEPS, ("mean", (0, 2))), ("mean", (2, 3)))
        self.assert_told(answer_of(STEPS, ("mean", ())), ("mean", (0, 1)))
        self.assert_told(answer_of(question=("misses", ()), rules=STEPS), ("misses", 0))
        self.assert_told(answer_of(full(0), ("dimension",)), ("dimension", 0))
        self.assert_told(answer_of(full(4), ("mean", (1, 2, 3))), ("mean", (3, 2)))

    def test_each_question(self):
        for rules in small_lists() + larger_lists():
            self.assert_told(answer_of(rules, ("dimension",)), ("dimension", max(map(len, free_lots(rules)))))
            for lot in lots_by_hand(rules.size)[::1 if rules.size < 4 else 7]:
                self.assert_told(answer_of(rules, ("misses", lot)), ("misses", misses_at(rules, lot)))
                self.assert_told(answer_of(rules, ("mean", lot)), ("mean", mean_at(rules, lot)))
                seen = rules.seen_at(lot)
                if len(seen) <= 8:
                    q = densest_by_hand(seen)
                    self.assert_told(answer_of(rules, ("mean", lot)), ("mean", pair(q)))
                    self.assert_told(answer_of(rules, ("misses", lot)), ("misses", -(-q // 1)))

    def test_invalid_questions(self):
        for wrong in no_questions(3):
            for ask in (answer_of, paper_of):
                self.assert_raises_with(InvalidQuestion, "value", wrong, ask, STEPS, wrong)
                self.assert_raises_with(InvalidQuestion, "value", wrong, ask, question=wrong, rules=STEPS)
            for claim, paper in ((("dimension", 1), ((), ())), (None, None), ([], True)):
                self.assert_raises_with(InvalidQuestion, "value", wrong, claim_holds, STEPS, wrong, claim, paper)
            self.assert_raises_with(InvalidQuestion, "value", wrong, claim_holds, paper=1, claim=2, question=wrong, rules=STEPS)

    def test_stays(self):
        for rules in (STEPS, full(2), scattered(4, 3)):
            for question in questions_of(rules)[::3] + [("mean", [0]), ("misses", (True,)), None]:
                self.assert_stays([rules], is_question, rules, question)
                self.assert_stays([rules], answer_of, rules, question)
                self.assert_stays([rules], paper_of, rules, question)
                self.assert_stays([rules], claim_holds, rules, question, ("mean", (1, 2)), ((), ()))


class Papers(Lists):
    def test_a_paper_is_taken_with_the_true_claim_only(self):
        for rules in small_lists()[::5] + larger_lists():
            for question in questions_of(rules)[::1 if rules.size < 4 else 9]:
                claim, paper = answer_of(rules, question), paper_of(rules, question)
                self.assertTrue(is_made_of_tuples(paper))
                self.assertIs(claim_holds(rules, question, claim, paper), True)
                self.assertIs(claim_holds(paper=paper_of(question=question, rules=rules), claim=claim, question=question, rules=rules), True)
                for other in claims_of(rules, question):
                    self.assertIs(claim_holds(rules, question, other, paper), other == claim, (question, other))
                if question[0] == "mean":
                    self.assertTrue(all(figures(chance) <= 12 for chance in paper[0]))

    def test_papers_of_other_questions(self):
        for rules in small_lists()[21::31] + larger_lists()[:3]:
            questions = questions_of(rules)[::1 if rules.size < 4 else 11]
            papers = [paper_of(rules, question) for question in questions]
            claims = [answer_of(rules, question) for question in questions]
            for question in questions:
                for paper in papers:
                    for claim in claims:
                        holds = claim_holds(rules, question, claim, paper)
                        self.assertIs(holds, judged_by_hand(rules, question, claim, paper))
                        self.assertLessEqual(holds, claim == answer_of(rules, question))

    def test_spoilt_at_one_place(self):
        for rules in (full(1), STEPS, scattered(3, 1)):
            for question in [("dimension",)] + [(word, lot) for word in ("misses", "mean") for lot in ((), (0,), tuple(range(rules.size)))]:
                claim, paper = answer_of(rules, question), paper_of(rules, question)
                for other in spoilt(claim):
                    self.assertIs(claim_holds(rules, question, other, paper), False, other)
                for other in spoilt(paper):
                    self.assertIs(claim_holds(rules, question, claim, other), judged_by_hand(rules, question, claim, other), other)

    def test_any_values_at_all(self):
        for rules in (full(0), STEPS, full(3)):
            for question in questions_of(rules)[::3]:
                claim, paper = answer_of(rules, question), paper_of(rules, question)
                for value in odd_values() + [claim, paper, question, rules, (claim, paper)]:
                    for other_claim, other_paper in (
                        (value, paper), (claim, value), (value, value), ((claim[0], value), paper), ((value, claim[1]), paper),
                        (claim, (value, value)), (claim, (value, paper[1])), (claim, (paper[0], value)), (claim, (paper[0], (value,))),
                    ):
                        right = judged_by_hand(rules, question, other_claim, other_paper)
                        self.assertIs(claim_holds(rules, question, other_claim, other_paper), right, value)

    def test_a_claim_of_another_word(self):
        one = full(1)
        for lot in ((), (0,)):
            self.assertIs(claim_holds(one, ("mean", lot), answer_of(one, ("misses", lot)), paper_of(one, ("misses", lot))), False)
            self.assertIs(claim_holds(one, ("misses", lot), answer_of(one, ("mean", lot)), paper_of(one, ("mean", lot))), False)
        self.assertIs(claim_holds(one, ("dimension",), ("misses", 1), ((1,), (0, 1))), False)
        self.assertIs(claim_holds(one, ("misses", (0,)), ("misses", 1), ((1,), (0, 1))), True)
        self.assertIs(claim_holds(one, ("misses", (0,)), ("misses", True), ((1,), (0, 1))), False)

    def test_of_what_the_rules_read_at_the_lot(self):
        rules = Rules(3, [(0, 0, 0), (0, 0, 1), (1, 0, 0)])
        self.assertEqual(dimension(rules), 1)
        self.assertIs(claim_holds(rules, ("mean", (0,)), ("mean", (1, 2)), mean_paper(full(1))), True)
        self.assertIs(claim_holds(rules, ("mean", (1,)), ("mean", (1, 2)), mean_paper(full(1))), False)
        self.assertIs(claim_holds(rules, ("mean", (1,)), ("mean", (0, 1)), ((), (0,))), True)
