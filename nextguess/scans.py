"""Values of tuples, integers and words, read from texts sign by sign."""

FIGURES = "0123456789"
LETTERS = "abcdefghijklmnopqrstuvwxyz "
MOST_FIGURES = 40
MOST_DEEP = 60


class Scan:
    """A text that is read from the front; at is the place that is read next."""

    def __init__(self, text):
        self.text = text
        self.at = 0

    def ended(self):
        """Tell whether all is read."""
        return self.at == len(self.text)

    def steps_over(self, sign):
        """Step over the sign if it is the next one, and tell whether it is."""
        if self.ended() or self.text[self.at] != sign:
            return False
        self.at += 1
        return True

    def run_of(self, signs):
        """Step over as many of these signs as there are, and return them."""
        start = self.at
        while not self.ended() and self.text[self.at] in signs:
            self.at += 1
        return self.text[start:self.at]


def integer_ahead(scan):
    """Step over an integer and return it, None if none is there."""
    start = scan.at
    below = scan.steps_over("-")
    figures = scan.run_of(FIGURES)
    if figures == "" or len(figures) > MOST_FIGURES:
        return None
    number = -int(figures) if below else int(figures)
    # A needless 0, and a nought below 0, would be written otherwise.
    return number if str(number) == scan.text[start:scan.at] else None


def word_ahead(scan):
    """Step over a word behind its first quotation mark and return it, None if none is there."""
    word = scan.run_of(LETTERS)
    return word if word != "" and scan.steps_over('"') else None


def members_ahead(scan, deep):
    """Step over a tuple behind its first sign and return it, None if none is there; it is the so manyth around."""
    if deep > MOST_DEEP:
        return None
    members = []
    while not scan.steps_over(")"):
        member = value_ahead(scan, deep)
        if member is None or not scan.steps_over(","):
            return None
        members.append(member)
    return tuple(members)


def value_ahead(scan, deep):
    """Step over a value within so many tuples and return it, None if none is there."""
    if scan.steps_over("("):
        return members_ahead(scan, deep + 1)
    if scan.steps_over('"'):
        return word_ahead(scan)
    return integer_ahead(scan)


def value_of(scan):
    """Read the whole text and return the value whose text it is, None if it is another string."""
    value = value_ahead(scan, 0)
    return value if scan.ended() else None
