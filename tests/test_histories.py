import random
from itertools import product

from nextguess.desk import Desk
from nextguess.errors import GuessError, InvalidText
from nextguess.histories import history_holds, relived, told, untold, write_history
from nextguess.lists import Rules
from nextguess.questions import answer_of, claim_holds, paper_of
from nextguess.texts import write_rules
from tests.cases import Lists, is_made_of_tuples
from tests.desks import (
    STEPS, WRONG_DEEDS, Model, call_of, can_be_told, desk_lists, do_deed, led_desk, other_papers, random_deed, state_of,
    told_by_hand, value_by_hand, wrong_place,
)
from tests.samples import full, nested, odd_values, scattered

SIGNS = list('0123456789-(),"abz AZ_.+\n\t') + ["\u0661", "\u00e4", "", "()", "(,)", '""', "-0", "00", "[]"]

SHORT = """points 1
rule 0
watch ("dimension",)
claim ("dimension",0,)
paper ((),((1,),),)
move ("put",(1,),)
claim ("dimension",1,)
paper ((0,),(),)
undo
claim ("dimension",0,)
paper ((),((1,),),)
leave ("dimension",)
redo"""


def values():
    """Values made of tuples, integers and words."""
    found = [0, 1, -1, 9, 10, -10, 10 ** 39, 10 ** 40 - 1, -(10 ** 40 - 1), 123456789012, "a", "z", " ", "  ", "half planes", "put"]
    found += [(), (0,), (1, 2), ((),), ((), ()), ("a",), ("a", -1, ()), ((0, (1, ("b c", ()))), -5), ("mean", (0, 2)), ("mean", (16, 11))]
    found += [nested(depth, lambda members: tuple(members)) for depth in (1, 2, 30, 59, 60)]
    empty = ()
    for _ in range(59):
        empty = (empty,)
    found += [empty, (empty[0], empty[0], "x"), (0,) * 500, (tuple(range(50)),) * 20, "word " * 1000]
    return found


def random_value(numbers, deep):
    kind = numbers.randrange(4)
    if kind == 0 or deep == 0:
        return numbers.choice([0, 1, -1]) * numbers.randrange(10 ** numbers.randrange(1, 40))
    if kind == 1:
        return "".join(numbers.choice("abcxyz ") for _ in range(numbers.randrange(1, 6)))
    return tuple(random_value(numbers, deep - 1) for _ in range(numbers.randrange(4)))


class Told(Lists):
    def test_letter_by_letter(self):
        for value, text in (
            (0, "0"), (-7, "-7"), (120, "120"), ("put", '"put"'), ("a b", '"a b"'), (" ", '" "'), ((), "()"), ((0,), "(0,)"),
            (("mean", (0, 2)), '("mean",(0,2,),)'), (((), ((),)), "((),((),),)"), (("put", (1, 0)), '("put",(1,0,),)'),
            (10 ** 40 - 1, "9" * 40), (-(10 ** 39), "-1" + "0" * 39), (("dimension",), '("dimension",)'),
        ):
            self.assertEqual(told(value), text)
            self.assert_told(untold(text), value)
            self.assertEqual(told(value=value), text)
            self.assert_told(untold(text=text), value)

    def test_there_and_back(self):
        numbers = random.Random(1)
        for value in values() + [random_value(numbers, 6) for _ in range(500)]:
            self.assertTrue(can_be_told(value))
            text = told(value)
            self.assertIs(type(text), str)
            self.assertEqual(text, told_by_hand(value))
            self.assert_told(untold(text), value)
            self.assertEqual(told(untold(text)), text)

    def test_sixty_tuples_within_one_another(self):
        for inner in ("", "0,", '"a",', "-1,0,"):
            text = "(" * 60 + inner + "),".join([""] * 60) + ")"
            self.assertEqual(told(untold(text)), text)
            self.assert_wrong("(" * 61 + inner + "),".join([""] * 61) + ")")
        side = "(" * 59 + "),".join([""] * 59) + ")"
        self.assertEqual(told(untold(f"({side},{side},)")), f"({side},{side},)")
        self.assert_wrong(f"(({side},),)")

    def assert_wrong(self, text):
        with self.assertRaises(InvalidText, msg=text) as caught:
            untold(text)
        self.assertIs(type(caught.exception), InvalidText)
        self.assertIs(caught.exception.text, text)
        self.assertIs(type(caught.exception.at), int)
        self.assertTrue(0 <= caught.exception.at <= len(text))

    def test_other_strings(self):
        for text in (
            "", " ", "\n", "-", "--1", "-0", "00", "01", "-01", "007", "+1", "1.0", "1e3", "0x1", "1_0", "1 ", " 1", "1\n", "1,", ",", "1,2",
            "9" * 41, "-" + "9" * 41, "1" + "0" * 40, "0" * 41, "9" * 90000, "\u0661", "\u00b2", "True", "None", "a", "put", '"', '""',
            '"a', 'a"', '"A"', '"Put"', '"a1"', '"a-b"', '"a_b"', '"a\nb"', '"a\tb"', '"\u00e4"', "'a'", '"a""b"', '"a" ', ' "a"', '"a\\"',
            "(", ")", "(,)", "(0)", "(0,1)", "(0,,)", "(,0,)", "( 0,)", "(0, 1,)", "(0,)1", "(0,)(0,)", "()()", "(0,", "(0", "((0,)", "((0,),",
            "((0,))", "(0,))", "[]", "[0,]", "(0;)", '("a")', '("a",1)', '(a,)', "(-0,)", "(00,)", '("",)', "(--1,)", "(1-,)", "(" * 300, ")" * 300,
            "(" * 300 + ")" * 300, "(" * 300 + "),".join([""] * 300) + ")", "(" * 90000, "()" * 300, "(),", "((),", '"' * 90000, "(0," * 30000,
        ):
            self.assertEqual(value_by_hand(text), ())
            self.assert_wrong(text)

    def test_spoilt_at_each_place(self):
        for value in (0, -10, "a b", (), (0,), ("mean", (0, 12)), ((), (("z",), -5))):
            text = told(value)
            for at in range(len(text) + 1):
                changed = [text[:at], text[at:], text[:at] + text[at + 1:]]
                changed += [text[:at] + sign + text[at:] for sign in SIGNS] + [text[:at] + sign + text[at + 1:] for sign in SIGNS]
                for other in changed:
                    right = value_by_hand(other)
                    if right:
                        self.assert_told(untold(other), right[0])
                    else:
                        self.assert_wrong(other)

    def test_every_short_string(self):
        right = 0
        for many in range(5):
            for signs in product('01-(),"a ', repeat=many):
                text = "".join(signs)
                value = value_by_hand(text.lstrip(" ")) if not text.startswith(" ") else ()
                if value:
                    right += 1
                    self.assert_told(untold(text), value[0])
                else:
                    self.assert_wrong(text)
        self.assertGreater(right, 30)

    def test_a_value_of_what_the_package_returns(self):
        for rules in desk_lists():
            for question in (("dimension",), ("mean", tuple(range(rules.size))), ("misses", tuple(range(rules.size)))):
                for value in (question, answer_of(rules, question), paper_of(rules, question), rules.rows):
                    self.assertEqual(untold(told(value)), value)

    def test_stays(self):
        for value in values()[::3]:
            self.assert_stays([], told, value)
        for text in ("(0,)", "(0", "", "(" * 300):
            self.assert_stays([], untold, text)


class Writing(Lists):
    def test_letter_by_letter(self):
        desk = Desk(Rules(1, [(0,)]))
        self.assertEqual(write_history(desk), "points 1\nrule 0")
        desk.watch(("dimension",))
        desk.move(("put", (1,)))
        desk.undo()
        desk.leave(("dimension",))
        desk.redo()
        self.assertEqual(write_history(desk), SHORT)
        self.assertEqual(write_history(desk=desk), SHORT)

    def test_claims_and_papers_behind_each_deed(self):
        desk = Desk(Rules(2, [(0, 0), (0, 1)]))
        desk.watch(("misses", (1,)))
        desk.watch(("mean", ()))
        desk.move(("turn", (0, 0)))
        desk.leave(("misses", (1,)))
        desk.undo()
        self.assertEqual(write_history(desk), "\n".join([
            "points 2", "rule 00", "rule 01", 'watch ("misses",(1,),)', 'claim ("misses",1,)', f'paper {told(desk_paper(("misses", (1,))))}',
            'watch ("mean",(),)', 'claim ("mean",(0,1,),)', "paper ((),(0,),)", 'move ("turn",(0,0,),)',
            'claim ("misses",1,)', f'paper {told(desk_paper(("misses", (1,))))}', 'claim ("mean",(0,1,),)', "paper ((),(0,),)",
            'leave ("misses",(1,),)', "undo", 'claim ("mean",(0,1,),)', "paper ((),(0,),)",
        ]))

    def test_desks_led_through_many_deeds(self):
        for seed in range(6):
            for rules in desk_lists():
                desk, text = led_desk(rules, seed)
                self.assertEqual(write_history(desk), text)
                self.assertIsNone(wrong_place(text))

    def test_calls_that_raise_leave_nothing(self):
        for rules in desk_lists():
            desk, text = led_desk(rules, 77)
            ahead = state_of(desk)
            for word, value in WRONG_DEEDS:
                call, arguments = call_of(desk, word, value)
                self.assertRaises(GuessError, call, *arguments)
            for question in desk.watched():
                desk.watch(question)
                self.assertRaises(GuessError, desk.leave, list(question))
            desk.now()
            self.assertEqual(write_history(desk), text)
            self.assertEqual(state_of(desk), ahead)
        desk = Desk(full(1))
        self.assertRaises(GuessError, desk.undo)
        self.assertRaises(GuessError, desk.redo)
        self.assertEqual(write_history(desk), write_rules(full(1)))

    def test_stays(self):
        desk, text = led_desk(STEPS, 4)
        ahead = state_of(desk)
        self.assertEqual(write_history(desk), write_history(desk))
        self.assertEqual(state_of(desk), ahead)
        self.assert_stays([], history_holds, text)
        self.assert_stays([], history_holds, text[:-1])
        self.assert_stays([], relived, text[:-1])
        self.assertEqual(state_of(relived(text)), state_of(relived(text)))


def desk_paper(question):
    return paper_of(Rules(2, [(0, 0), (0, 1)]), question)


class Histories(Lists):
    def assert_right(self, text):
        self.assertIs(history_holds(text), True)
        desk = relived(text)
        self.assertIs(type(desk), Desk)
        self.assertEqual(write_history(desk), text)
        return desk

    def assert_wrong(self, text, at):
        self.assertIs(history_holds(text), False)
        with self.assertRaises(InvalidText, msg=text) as caught:
            relived(text)
        self.assertIs(type(caught.exception), InvalidText)
        self.assertIs(caught.exception.text, text)
        self.assertIs(type(caught.exception.at), int)
        self.assertEqual(caught.exception.at, at, text)

    def assert_judged(self, text):
        """The text is judged as the slow reading by hand tells."""
        at = wrong_place(text)
        if at is None:
            self.assert_right(text)
        else:
            self.assert_wrong(text, at)
        return at is None


class Relived(Histories):
    def test_a_list_alone(self):
        for rules in desk_lists():
            desk = self.assert_right(write_rules(rules))
            self.assertEqual(state_of(desk), (rules, (), (), [], []))
        self.assertEqual(relived(text="points 0\nrule -").now(), full(0))
        self.assertIs(history_holds(text="points 0\nrule -"), True)

    def test_desks_led_through_many_deeds(self):
        for seed in range(6):
            for rules in desk_lists():
                desk, text = led_desk(rules, seed, 30)
                again = self.assert_right(text)
                self.assertEqual(state_of(again), state_of(desk))
                self.assertTrue(is_made_of_tuples(again.watched()))
                self.assert_go_on_alike(desk, again)

    def assert_go_on_alike(self, desk, again):
        """Undone moves can be done again, moves be undone, and more be done, as with the desk that was told."""
        while True:
            try:
                report = desk.redo()
            except GuessError:
                break
            self.assertEqual(again.redo(), report)
        self.assertRaises(GuessError, again.redo)
        while desk.done():
            self.assertEqual(again.undo(), desk.undo())
            self.assertEqual(state_of(again), state_of(desk))
        self.assertRaises(GuessError, again.undo)
        move = ("turn", (1,) * desk.now().size)
        self.assertEqual(again.move(move), desk.move(move))
        self.assertEqual(write_history(again), write_history(desk))
        self.assertIs(history_holds(write_history(again)), True)

    def test_two_desks_of_one_text(self):
        one, other = relived(SHORT), relived(SHORT)
        one.undo()
        one.watch(("mean", ()))
        self.assertEqual(write_history(other), SHORT)
        self.assertEqual(other.now(), full(1))
        self.assertEqual(other.watched(), ())


class OtherPapers(Histories):
    def test_a_paper_put_in_by_hand(self):
        rules = Rules(2, [(0, 0), (0, 1)])
        for bar in ("1,0,", "1,1,"):
            text = write_rules(rules) + f'\nwatch ("dimension",)\nclaim ("dimension",1,)\npaper ((1,),(({bar}),),)'
            desk = self.assert_right(text)
            self.assertEqual(desk.paper_for(("dimension",)), ((1,), (tuple(map(int, bar.split(",")[:2])),)))
            # The paper of before still holds, and another one stands there.
            for other in ("1,0,", "1,1,"):
                longer = text + f'\nmove ("turn",(0,0,),)\nclaim ("dimension",1,)\npaper ((1,),(({other}),),)'
                desk = self.assert_right(longer)
                self.assertEqual(desk.paper_for(("dimension",)), ((1,), (tuple(map(int, other.split(",")[:2])),)))
                # What is kept from here on is the paper that stood there.
                self.assertEqual(desk.move(("put", (1, 0)))[0][1], "renewed" if other == "1,0," else "kept")
        self.assert_wrong(text.replace("(1,1,)", "(0,1,)"), text.index("paper"))

    def test_every_paper_exchanged(self):
        exchanged = 0
        for seed, rules in enumerate(desk_lists()[1:8] * 2):
            text = led_desk(rules, seed + 20)[1]
            lines = text.split("\n")
            model = Model(rules)
            due = []
            for number, line in enumerate(lines):
                word, _, rest = line.partition(" ")
                if word in ("watch", "leave", "move", "undo", "redo"):
                    due = list(model.do(word, value_by_hand(rest)[0] if rest else None))
                if word == "paper":
                    question = due.pop(0)
                    claim = answer_of(model.rules(), question)
                    for paper in other_papers(model.rules(), question, claim, value_by_hand(rest)[0])[:6]:
                        other = "\n".join(lines[:number] + [f"paper {told(paper)}"] + lines[number + 1:])
                        desk = self.assert_right(other)
                        exchanged += 1
                        if number == len(lines) - 1:
                            self.assertEqual(desk.paper_for(question), paper)
        self.assertGreater(exchanged, 100)

    def test_all_papers_exchanged_at_once(self):
        for seed, rules in enumerate(desk_lists()[1:8]):
            lines, model, due, papers = led_desk(rules, seed + 40, 20)[1].split("\n"), Model(rules), [], {}
            for number, line in enumerate(lines):
                word, _, rest = line.partition(" ")
                if word in ("watch", "leave", "move", "undo", "redo"):
                    due = list(model.do(word, value_by_hand(rest)[0] if rest else None))
                if word == "paper":
                    question, paper = due.pop(0), value_by_hand(rest)[0]
                    others = other_papers(model.rules(), question, answer_of(model.rules(), question), paper)
                    papers[question] = (others + [paper])[number % 3 % (len(others) + 1)]
                    lines[number] = f"paper {told(papers[question])}"
            desk = self.assert_right("\n".join(lines))
            for question in desk.watched():
                self.assertEqual(desk.paper_for(question), papers[question])
                self.assertIs(claim_holds(desk.now(), question, desk.claim(question), papers[question]), True)


class WrongLines(Histories):
    def test_wrong_lines_by_hand(self):
        head = "points 1\nrule 0"
        watch = head + '\nwatch ("dimension",)\nclaim ("dimension",0,)\npaper ((),((1,),),)'
        for ahead, line in (
            ("", ""), ("", "points"), ("", "points 9"), ("", "points 01"), ("", "rule 0"), ("points 1", "rule"), ("points 1", "rule 00"),
            ("points 1", "undo"), ("points 1", "points 1"), ("points 1", "watch"), ("points 1", ""), (head, "rule 0"), (head, "rule"),
            (head, ""), (head, "points 1"), (head, "undo"), (head, "redo"), (head, "undo "), (head, "Undo"), (head, "undo ()"), (head, " undo"),
            (head, 'leave ("dimension",)'), (head, 'watch ("dimension")'), (head, 'watch  ("dimension",)'), (head, 'watch ("dimension",) '),
            (head, 'watch ("dimension",1,)'), (head, 'watch ("mean",(1,),)'), (head, 'watch ("mean",0,)'), (head, "watch"), (head, "watch "),
            (head, 'watch("dimension",)'), (head, 'Watch ("dimension",)'), (head, "watch 5"), (head, 'move ("put",(0,),)'), (head, 'move ("drop",(0,),)'),
            (head, 'move ("drop",(1,),)'), (head, 'move ("put",(2,),)'), (head, 'move ("put",(1,0,),)'), (head, 'move ("put",1,)'), (head, "move"),
            (head, 'move ("lay",(1,),)'), (head, "move ()"), (head, 'claim ("dimension",0,)'), (head, "paper ((),((1,),),)"), (head, 'put ("put",(1,),)'),
            (head + '\nwatch ("dimension",)', "undo"), (head + '\nwatch ("dimension",)', "paper ((),((1,),),)"),
            (head + '\nwatch ("dimension",)', 'claim ("dimension",1,)'), (head + '\nwatch ("dimension",)', 'claim ("misses",0,)'),
            (head + '\nwatch ("dimension",)', 'claim ("dimension",0)'), (head + '\nwatch ("dimension",)', 'Claim ("dimension",0,)'),
            (head + '\nwatch ("dimension",)', 'claim  ("dimension",0,)'), (head + '\nwatch ("dimension",)', 'claim ("dimension",0,),'),
            (head + '\nwatch ("dimension",)', ""), (head + '\nwatch ("dimension",)', 'watch ("mean",(),)'),
            (head + '\nwatch ("dimension",)\nclaim ("dimension",0,)', "paper ((),((0,),),)"),
            (head + '\nwatch ("dimension",)\nclaim ("dimension",0,)', "paper ((),((1,),))"),
            (head + '\nwatch ("dimension",)\nclaim ("dimension",0,)', "paper ((),((1,),),) "),
            (head + '\nwatch ("dimension",)\nclaim ("dimension",0,)', "paper ()"),
            (head + '\nwatch ("dimension",)\nclaim ("dimension",0,)', "paper"),
            (head + '\nwatch ("dimension",)\nclaim ("dimension",0,)', "((),((1,),),)"),
            (head + '\nwatch ("dimension",)\nclaim ("dimension",0,)', 'claim ("dimension",0,)'),
            (head + '\nwatch ("dimension",)\nclaim ("dimension",0,)', "undo"),
            (watch, 'watch ("dimension",)'), (watch, 'leave ("mean",(),)'), (watch, 'leave ("dimension",0,)'), (watch, "leave"), (watch, "undo"),
            (watch, "rule 1"), (watch, 'claim ("dimension",0,)'), (watch, "paper ((),((1,),),)"), (watch, ""),
            (watch + '\nleave ("dimension",)', 'leave ("dimension",)'), (watch + '\nleave ("dimension",)', 'claim ("dimension",0,)'),
            (watch + '\nmove ("put",(1,),)', 'claim ("dimension",0,)'), (watch + '\nmove ("put",(1,),)', "undo"),
            (watch + '\nmove ("put",(1,),)\nclaim ("dimension",1,)', "paper ((),((1,),),)"),
            (watch + '\nmove ("put",(1,),)\nclaim ("dimension",1,)\npaper ((0,),(),)', "redo"),
            (head + '\nmove ("put",(1,),)\nundo\nmove ("turn",(1,),)', "redo"), (head + '\nmove ("put",(1,),)\nundo\nredo', "redo"),
            (head + '\nmove ("put",(1,),)\nundo', "undo"),
        ):
            text, at = (ahead + "\n" + line, len(ahead) + 1) if ahead else (line, 0)
            self.assertEqual(wrong_place(text), at, text)
            self.assert_wrong(text, at)
            for more in ("\n", "\nundo", "\nno line at all", '\nmove ("turn",(0,),)', "\n\n"):
                self.assert_wrong(text + more, at)

    def test_lines_that_are_lacking(self):
        lines = SHORT.split("\n")
        for many in range(len(lines) + 1):
            text = "\n".join(lines[:many])
            self.assertEqual(self.assert_judged(text), many in (2, 5, 8, 11, 12, 13), text)
            if many in (1, 3, 4, 6, 7, 9, 10):
                self.assert_wrong(text, len(text))

    def test_the_text_cut_off_at_each_place(self):
        for text in (SHORT, led_desk(STEPS, 8, 8)[1], led_desk(full(0), 3, 8)[1]):
            for at in range(len(text) + 1):
                self.assert_judged(text[:at])
                self.assert_judged(text[at:])

    def test_spoilt_at_each_place(self):
        right = 0
        for at in range(len(SHORT) + 1):
            for sign in SIGNS + ["\n\n", "\r"]:
                right += self.assert_judged(SHORT[:at] + sign + SHORT[at:])
                right += self.assert_judged(SHORT[:at] + sign + SHORT[at + 1:])
        self.assertGreater(right, 0)

    def test_lines_left_out_doubled_and_exchanged(self):
        texts = [SHORT] + [led_desk(rules, seed, 9)[1] for seed, rules in enumerate(desk_lists())]
        lines_of_all = sorted({line for text in texts[:5] for line in text.split("\n")})
        right = 0
        for text in texts:
            lines = text.split("\n")
            numbers = random.Random(len(lines))
            for k in range(len(lines)):
                others = [lines[:k] + lines[k + 1:], lines[:k + 1] + lines[k:], lines[:k] + [""] + lines[k:], lines[:k] + [lines[k] + " "] + lines[k + 1:]]
                if k > 0:
                    others.append(lines[:k - 1] + [lines[k], lines[k - 1]] + lines[k + 1:])
                for line in numbers.sample(lines_of_all, 4) + ["undo", "redo", numbers.choice(lines)]:
                    others += [lines[:k] + [line] + lines[k:], lines[:k] + [line] + lines[k + 1:]]
                for other in others:
                    right += self.assert_judged("\n".join(other))
            self.assert_judged(text + "\n")
            self.assert_judged("\n" + text)
        self.assertGreater(right, 50)

    def test_any_string(self):
        for text in ("", "\n", " ", "a", "points", "0", "()", "\u0661", "points 1\r\nrule 0", "rule 0\npoints 1", "undo", "(" * 300, "points 2\n" * 9000):
            self.assert_judged(text)
        self.assert_wrong("points 8\nrule 01010101\n" + "undo\n" * 15000, 23)
        self.assert_wrong("points 1\nrule 0\nwatch " + "(" * 90000, 16)
        self.assert_wrong("points 1\nrule 0\nwatch " + "9" * 90000, 16)
        self.assert_wrong('points 1\nrule 0\nwatch ("dimension",)\nclaim ("dimension",0,)\npaper ' + "(" * 61 + "),".join([""] * 61) + ")", 60)
        self.assertEqual(len('points 1\nrule 0\nwatch ("dimension",)\nclaim ("dimension",0,)\n'), 60)

    def test_papers_of_the_wrong_time(self):
        # A paper that holds ahead of a move and not behind it does not hold behind it.
        text = 'points 1\nrule 0\nrule 1\nwatch ("mean",(0,),)\nclaim ("mean",(1,2,),)\npaper (((1,2,),),(0,1,),)'
        self.assert_right(text)
        moved = text + '\nmove ("drop",(1,),)\nclaim ("mean",(0,1,),)\npaper '
        self.assert_right(moved + "((),(0,),)")
        self.assert_wrong(moved + "(((1,2,),),(0,1,),)", moved.rindex("paper"))
        self.assert_wrong(moved.replace("(0,1,),)\np", "(1,2,),)\np") + "((),(0,),)", moved.rindex("claim"))

    def test_true_and_false_are_no_words(self):
        for text in ("points 1\nrule 0\nmove (\"turn\",(True,),)", "points 1\nrule 0\nmove (\"turn\",(\"a\",),)"):
            self.assert_wrong(text, 16)


class Long(Histories):
    def test_sixty_moves(self):
        for rules in (scattered(6, 5), scattered(5, 3), STEPS):
            numbers, desk, model = random.Random(6), Desk(rules), Model(rules)
            for question in (("dimension",), ("mean", tuple(range(rules.size))), ("misses", tuple(range(rules.size)))):
                desk.watch(question)
                model.do("watch", question)
            deeds = 0
            while deeds < 60:
                word, value = random_deed(numbers, rules)
                if word in ("move", "undo", "redo") and model.can(word, value):
                    model.do(word, value)
                    do_deed(desk, word, value)
                    deeds += 1
            text = write_history(desk)
            self.assertEqual(state_of(self.assert_right(text)), state_of(desk))
            self.assert_wrong(text + "\nundo ", len(text) + 1)

    def test_values_of_every_kind_are_no_text_of_a_value(self):
        for value in odd_values():
            if not can_be_told(value):
                text = f"points 1\nrule 0\nwatch {value!r}"
                self.assert_judged(text)
