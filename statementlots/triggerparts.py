"""Tests and deeds: what a trigger looks at, and what it does."""

from statementlots.forms import Form
from statementlots.limits import GREATEST_BOUND
from statementlots.statements import Statement
from statementlots.values import are_different, is_integer, is_list, is_name
from statementlots.words import is_word

ADD = "add"
SET = "set"
REFUSE = "refuse"


def is_bound(thing):
    """Tell whether any object is an integer that a test may have as a bound."""
    return is_integer(thing) and 0 <= thing <= GREATEST_BOUND


def are_words(thing):
    """Tell whether any object is a list of one or more different words."""
    return is_list(thing) and len(thing) >= 1 and all([is_word(word) for word in thing]) and are_different(thing)


def is_test(thing):
    """Tell whether any object is a test."""
    if not is_list(thing) or len(thing) != 3:
        return False
    words, least, most = thing
    return are_words(words) and is_bound(least) and (most is None or is_bound(most))


def is_verb(thing):
    """Tell whether any object says what becomes of a counter."""
    return isinstance(thing, str) and thing in (ADD, SET)


def is_deed(thing):
    """Tell whether any object is a deed."""
    if isinstance(thing, str):
        return thing == REFUSE
    if is_list(thing):
        return len(thing) == 3 and is_verb(thing[0]) and is_name(thing[1]) and isinstance(thing[2], Form)
    return isinstance(thing, Statement)


def kept_test(test):
    """Return a test as a tuple that has its words in ascending order."""
    words, least, most = test
    return tuple(sorted(words)), least, most


def kept_deed(deed):
    """Return a deed as something that nobody can change."""
    return tuple(deed) if is_list(deed) else deed
