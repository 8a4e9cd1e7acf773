"""The lines of the texts of books, both ways."""

from statementlots.errors import BadText
from statementlots.forms import Form
from statementlots.limits import MOST_COUNTERS, MOST_DEEDS, MOST_KINDS_OF_BOOK, MOST_TESTS, MOST_TRIGGERS
from statementlots.statements import Statement
from statementlots.triggerparts import REFUSE, is_test, is_verb
from statementlots.values import is_name, is_names

NO_BOUND = "*"
BOUNDS = {"0": 0, "1": 1, "2": 2, "3": 3}


def line_of(parts):
    """Return the line in which some strings stand."""
    return " ".join(parts)


def test_line(test):
    """Return the line of a test."""
    words, least, most = test
    return line_of(["test", str(least), NO_BOUND if most is None else str(most), *words])


def deed_line(deed):
    """Return the line of a deed."""
    if isinstance(deed, Statement):
        return line_of(["do", deed.text()])
    if isinstance(deed, str):
        return deed
    verb, counter, form = deed
    return line_of([verb, counter, form.text()])


def trigger_lines(trigger):
    """Return the list of the lines of a trigger."""
    heads = [line_of(parts) for parts in (["trigger", trigger.label], ["olds", *trigger.olds], ["news", *trigger.news])]
    tests = [test_line(test) for test in trigger.tests]
    deeds = [deed_line(deed) for deed in trigger.deeds]
    return [*heads, *tests, *deeds]


def read_names(lines, at, head, least, most):
    """Return the ascending list of the names in a line behind its head; raise BadText if it is no such line."""
    if at >= len(lines):
        raise BadText(at + 1)
    first, *names = lines[at].split(" ")
    if first != head or not is_names(names, least, most) or names != sorted(names):
        raise BadText(at + 1)
    return names


def read_test(line):
    """Return the test that has a line, None if there is none."""
    head, *told = line.split(" ")
    if head != "test" or len(told) < 2:
        return None
    least, most, *words = told
    # No bound is below 0, so that what is no bound is found wrong with the others.
    test = (words, BOUNDS.get(least, -1), None if most == NO_BOUND else BOUNDS.get(most, -1))
    return test if is_test(test) and words == sorted(words) else None


def read_counting(verb, told):
    """Return the deed that does something to a counter by a form, both told in a string; None if there is none."""
    counter, _, text = told.partition(" ")
    if not is_name(counter):
        return None
    try:
        return verb, counter, Form.parse(text)
    except BadText:
        return None


def read_doing(told):
    """Return the statement that has a text, None if there is none."""
    try:
        return Statement.parse(told)
    except BadText:
        return None


def read_deed(line):
    """Return the deed that has a line, None if there is none."""
    if line == REFUSE:
        return REFUSE
    head, _, told = line.partition(" ")
    if head == "do":
        return read_doing(told)
    return read_counting(head, told) if is_verb(head) else None


def read_rows(lines, at, read, most):
    """Return what the lines from a place on tell, as long as they can be read, and the place behind these."""
    found = []
    while at < len(lines) and len(found) < most:
        told = read(lines[at])
        if told is None:
            break
        found.append(told)
        at += 1
    return found, at


def read_trigger(lines, at):
    """Return a tuple of all that a trigger is made of, and the place of the line behind it."""
    label = read_names(lines, at, "trigger", 1, 1)[0]
    olds = read_names(lines, at + 1, "olds", 0, None)
    news = read_names(lines, at + 2, "news", 0, None)
    tests, behind_tests = read_rows(lines, at + 3, read_test, MOST_TESTS)
    deeds, behind = read_rows(lines, behind_tests, read_deed, MOST_DEEDS)
    return (label, olds, news, tests, deeds), behind


def read_book(text):
    """Return the kinds, the counters and what each trigger of a book is made of; raise BadText for a wrong line."""
    # What is no string has no lines, so that the first one is lacking.
    lines = text.split("\n") if isinstance(text, str) else []
    kinds = read_names(lines, 0, "kinds", 1, MOST_KINDS_OF_BOOK)
    counters = read_names(lines, 1, "counters", 0, MOST_COUNTERS)
    triggers = []
    at = 2
    while at < len(lines):
        # What is no row of a trigger any more must begin another one.
        if len(triggers) == MOST_TRIGGERS:
            raise BadText(at + 1)
        told, at = read_trigger(lines, at)
        triggers.append(told)
    return kinds, counters, triggers
