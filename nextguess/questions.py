"""Questions of a list, their true claims, and papers that prove them."""

from nextguess.basics import is_pair
from nextguess.drawn import least_mean, mean_holds, mean_paper
from nextguess.errors import InvalidQuestion
from nextguess.freedom import dimension, dimension_holds, dimension_paper
from nextguess.guesses import least_worst, misses_holds, misses_paper
from nextguess.rows import is_lot

OF_LOTS = ("misses", "mean")


def is_question(rules, value):
    """Tell whether value, whatever it is, is a question of the list."""
    if value == ("dimension",):
        return True
    return is_pair(value) and value[0] in OF_LOTS and is_lot(value[1], rules.size)


def demand_question(rules, question):
    """Raise InvalidQuestion unless question is a question of the list."""
    if not is_question(rules, question):
        raise InvalidQuestion(question)


def answer_of(rules, question):
    """Return the true claim of the question."""
    demand_question(rules, question)
    word = question[0]
    if word == "dimension":
        return (word, dimension(rules))
    seen = rules.seen_at(question[1])
    return (word, least_worst(seen) if word == "misses" else least_mean(seen))


def paper_of(rules, question):
    """Return a paper of the true claim of the question."""
    demand_question(rules, question)
    if question[0] == "dimension":
        return dimension_paper(rules)
    seen = rules.seen_at(question[1])
    return misses_paper(seen) if question[0] == "misses" else mean_paper(seen)


def claim_holds(rules, question, claim, paper):
    """Tell whether claim is a claim of the question's word, and paper a paper that proves it."""
    demand_question(rules, question)
    if question[0] == "dimension":
        return dimension_holds(rules, claim, paper)
    seen = rules.seen_at(question[1])
    return misses_holds(seen, claim, paper) if question[0] == "misses" else mean_holds(seen, claim, paper)
