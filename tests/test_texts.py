from nextguess.errors import InvalidText
from nextguess.lists import Rules
from nextguess.texts import read_rules, write_rules
from tests.cases import Lists
from tests.samples import full, larger_lists, largest_lists, scattered, small_lists

POINTS_LINES = [f"points {size}" for size in range(9)]
TWO = "points 2\nrule 00\nrule 11"
SIGNS = ["0", "1", "2", "9", "-", " ", "\n", "\r", "\t", "r", "p", "R", "\u0661", "\u00b9", "\u00a0", "\u2028", "+", "_"]


def text_by_hand(size, rows):
    lines = ["rule " + ("".join(map(str, row)) or "-") for row in sorted(set(rows))]
    return "\n".join([f"points {size}"] + lines)


def rule_lines(size):
    """Every rule line of so many points."""
    return ["rule " + (f"{code:0{size}b}" if size else "-") for code in range(2 ** size)]


def wrong_place(text):
    """The place at which a text is wrong by the words of DOC.md, None if it is right."""
    at, ahead, may_stand = 0, "", POINTS_LINES
    for number, line in enumerate(text.split("\n")):
        if line not in may_stand or line <= ahead:
            return at
        if number == 0:
            may_stand = rule_lines(int(line[-1]))
        else:
            ahead = line
        at += len(line) + 1
    return len(text) if ahead == "" else None


class Writing(Lists):
    def test_letter_by_letter(self):
        self.assertEqual(write_rules(Rules(0, [()])), "points 0\nrule -")
        self.assertEqual(write_rules(Rules(1, [(1,)])), "points 1\nrule 1")
        self.assertEqual(write_rules(Rules(2, [(1, 1), (0, 0)])), TWO)
        self.assertEqual(write_rules(Rules(3, [(1, 1, 0), (0, 1, 1), (1, 1, 0), (0, 0, 0)])),
                         "points 3\nrule 000\nrule 011\nrule 110")
        self.assertEqual(write_rules(Rules(8, ((0,) * 8, (1, 0) * 4))), "points 8\nrule 00000000\nrule 10101010")

    def test_lists_of_no_to_eight_points(self):
        lists = [full(size) for size in range(9)] + small_lists() + larger_lists() + largest_lists()
        for rules in lists:
            text = write_rules(rules)
            self.assertIs(type(text), str)
            self.assertEqual(text, text_by_hand(rules.size, rules.rows))
            self.assertEqual(text, write_rules(rules=Rules(rules.size, list(rules.rows[::-1]) + list(rules.rows))))

    def test_stays(self):
        for rules in (Rules(0, [()]), scattered(5, 3), full(8)):
            self.assert_stays([rules], write_rules, rules)


class Reading(Lists):
    def assert_wrong(self, text, at):
        with self.assertRaises(InvalidText, msg=text) as caught:
            read_rules(text)
        self.assertIs(type(caught.exception), InvalidText)
        self.assertIs(caught.exception.text, text)
        self.assertIs(type(caught.exception.at), int)
        self.assertEqual(caught.exception.at, at, text)

    def test_what_was_written(self):
        for rules in small_lists() + larger_lists() + largest_lists() + [full(size) for size in range(9)]:
            read = read_rules(write_rules(rules))
            self.assert_rules(read, rules.size, rules.rows)
            self.assertEqual(read, rules)

    def test_by_name_and_again(self):
        self.assert_rules(read_rules(text=TWO), 2, [(0, 0), (1, 1)])
        self.assertEqual(read_rules(TWO), read_rules(TWO))
        self.assert_stays([], read_rules, "points 2\nrule 1")

    def test_the_first_line(self):
        for line in ("", " ", "points", "points ", "point 2", "Points 2", "points  2", " points 2", "points 2 ", "points2",
                     "points 02", "points 00", "points 9", "points 10", "points 08", "points -1", "points +2", "points two",
                     "points 2.", "points -", "points \u0662", "points 2\r", "points\t2", "rule 00", "rule -", "-"):
            self.assert_wrong(line, 0)
            self.assert_wrong(line + "\nrule 00\nrule 11", 0)
        self.assert_wrong("\npoints 2\nrule 00", 0)
        self.assert_wrong("points 9\nrule 000000000", 0)

    def test_no_rule_at_all(self):
        for size in range(9):
            self.assert_wrong(f"points {size}", 8)
            self.assert_wrong(f"points {size}\n", 9)

    def test_an_empty_line(self):
        self.assert_wrong("points 2\n\nrule 00\nrule 11", 9)
        self.assert_wrong("points 2\nrule 00\n\nrule 11", 17)
        self.assert_wrong("points 2\nrule 00\nrule 11\n\n", 25)

    def test_a_line_feed_at_the_end(self):
        self.assert_wrong(TWO + "\n", 25)
        self.assert_wrong("points 0\nrule -\n", 16)

    def test_a_second_points_line(self):
        self.assert_wrong("points 2\npoints 2\nrule 00", 9)
        self.assert_wrong("points 2\nrule 00\npoints 2", 17)
        self.assert_wrong(TWO + "\n" + TWO, 25)

    def test_wrong_rule_lines(self):
        for line in ("rule 0", "rule 000", "rule -", "rule", "rule ", "rule  00", " rule 00", "rule 00 ", "rule 0 0", "rule00",
                     "rule 02", "rule 20", "rule 0-", "rule --", "rule oo", "Rule 00", "rules 00", "row 00", "00", "rule 0,0",
                     "rule 0\u0660", "rule \u00b90", "rule 00\r", "rule\t00", "rule 0\u0000", "misses 00", "-", " ", "",
                     "rule +1", "rule -1", "rule _1", "rule 1_"):
            self.assert_wrong("points 2\n" + line, 9)
            self.assert_wrong("points 2\n" + line + "\nrule 11", 9)
            self.assert_wrong("points 2\nrule 00\n" + line, 17)
            self.assert_wrong("points 2\nrule 00\n" + line + "\nno line", 17)

    def test_no_points(self):
        for line in ("rule", "rule ", "rule 0", "rule 1", "rule --", "rule - ", "rule  -", "-", ""):
            self.assert_wrong("points 0\n" + line, 9)
        self.assert_wrong("points 0\nrule -\nrule -", 16)

    def test_twice_or_not_behind_the_rule_ahead(self):
        self.assert_wrong("points 2\nrule 00\nrule 00", 17)
        self.assert_wrong("points 2\nrule 00\nrule 11\nrule 11", 25)
        self.assert_wrong("points 2\nrule 01\nrule 00", 17)
        self.assert_wrong("points 2\nrule 00\nrule 11\nrule 01", 25)
        self.assert_wrong("points 2\nrule 01\nrule 10\nrule 01\nrule 00", 25)

    def test_the_first_wrong_line_is_told(self):
        self.assert_wrong("points 2\nrule 0\nrule 1", 9)
        self.assert_wrong("points 3\nrule 001\nrule 000\nrule", 18)
        self.assert_wrong("points x\nrule x", 0)

    def test_spoilt_at_each_place(self):
        right = 0
        for rules in (Rules(0, [()]), Rules(1, [(1,)]), full(1), Rules(2, [(0, 0), (1, 1)]),
                      Rules(3, [(0, 0, 0), (0, 1, 1), (1, 1, 1)]), Rules(8, [(0, 1) * 4, (1,) * 8])):
            text = write_rules(rules)
            for at in range(len(text) + 1):
                changed = [text[:at], text[at:], text[:at] + text[at + 1:], text[:at] + text[at:at + 1] + text[at:]]
                changed += [text[:at] + sign + text[at:] for sign in SIGNS]
                changed += [text[:at] + sign + text[at + 1:] for sign in SIGNS]
                for other in changed:
                    place = wrong_place(other)
                    if place is None:
                        right += 1
                        self.assertEqual(write_rules(read_rules(other)), other)
                    else:
                        self.assert_wrong(other, place)
        self.assertGreater(right, 100)

    def test_lines_in_another_order(self):
        lines = write_rules(Rules(2, [(0, 0), (0, 1), (1, 1)])).split("\n")
        for i in range(4):
            for j in range(i):
                other = list(lines)
                other[i], other[j] = other[j], other[i]
                text = "\n".join(other)
                self.assert_wrong(text, wrong_place(text))
                self.assert_wrong("\n".join(lines[:i] + lines[j:]), wrong_place("\n".join(lines[:i] + lines[j:])))

    def test_a_long_wrong_text(self):
        text = "points 3" + "\nrule 101" * 10000
        self.assert_wrong(text, 18)
        self.assert_wrong("points 3\nrule " + "0" * 90000, 9)
        self.assert_wrong("points " + "8" * 90000, 0)
