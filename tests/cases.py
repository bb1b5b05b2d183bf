"""What the test cases of several files assert."""

import unittest

from nextguess.lists import Rules


def is_plain(rules):
    """Whether the attributes are of the kinds that DOC.md tells: no list, no boolean within."""
    return (
        type(rules) is Rules and type(rules.size) is int and type(rules.rows) is tuple and len(rules.rows) > 0
        and all(type(row) is tuple and len(row) == rules.size for row in rules.rows)
        and all(type(value) is int and value in (0, 1) for row in rules.rows for value in row)
        and list(rules.rows) == sorted(set(rules.rows))
    )


def is_made_of_tuples(value):
    """Whether value is an integer, a word, or a tuple of such: no list, no boolean within."""
    if type(value) is tuple:
        return all(is_made_of_tuples(member) for member in value)
    return type(value) in (int, str)


def outcome(call, arguments):
    """What a call returns, or the class and the attributes of its error."""
    try:
        return call(*arguments)
    except ValueError as error:
        return (type(error), vars(error))


class Lists(unittest.TestCase):
    def assert_rules(self, rules, size, rows):
        self.assertTrue(is_plain(rules))
        self.assertEqual((rules.size, rules.rows), (size, tuple(rows)))

    def assert_told(self, value, wanted):
        """The value is the wanted one, made of tuples, integers and words as DOC.md tells."""
        self.assertTrue(is_made_of_tuples(value), value)
        self.assertEqual(value, wanted)

    def assert_raises_with(self, error, attribute, value, call, /, *arguments, **named):
        """The error is raised, of just this class, and keeps the value: itself, or an equal one."""
        with self.assertRaises(error) as caught:
            call(*arguments, **named)
        self.assertIs(type(caught.exception), error)
        kept = getattr(caught.exception, attribute)
        if attribute == "value":
            self.assertIs(kept, value)
        else:
            self.assertEqual(kept, value)

    def assert_stays(self, lists, call, *arguments):
        """The call twice comes to the same, and leaves the lists as they were."""
        ahead = [(rules.size, tuple(rules.rows)) for rules in lists]
        first = outcome(call, arguments)
        self.assertEqual(outcome(call, arguments), first)
        for rules, (size, rows) in zip(lists, ahead):
            self.assert_rules(rules, size, rows)
            self.assertEqual(rules, Rules(size, rows))
