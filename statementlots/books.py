"""Triggers, and the books that have them."""

from statementlots.booktexts import line_of, read_book, trigger_lines
from statementlots.errors import BadBook, BadTrigger
from statementlots.limits import MOST_COUNTERS, MOST_DEEDS, MOST_KINDS_OF_BOOK, MOST_TESTS, MOST_TRIGGERS
from statementlots.statements import Statement
from statementlots.triggerparts import is_deed, is_test, kept_deed, kept_test
from statementlots.values import are_different, is_list, is_name, is_names
from statementlots.words import name_in


def are_tests(thing):
    """Tell whether any object is a list of as many tests as a trigger may have."""
    return is_list(thing) and len(thing) <= MOST_TESTS and all([is_test(test) for test in thing])


def are_deeds(thing):
    """Tell whether any object is a list of as many deeds as a trigger may have."""
    return is_list(thing) and len(thing) <= MOST_DEEDS and all([is_deed(deed) for deed in thing])


class Trigger:
    """An immutable trigger."""

    def __init__(self, name, olds, news, tests, deeds):
        if not is_name(name):
            raise BadTrigger("name")
        if not is_names(olds, 0, None):
            raise BadTrigger("olds")
        if not is_names(news, 0, None):
            raise BadTrigger("news")
        if not are_tests(tests):
            raise BadTrigger("tests")
        if not are_deeds(deeds):
            raise BadTrigger("deeds")
        self._label = name
        self._olds = tuple(sorted(olds))
        self._news = tuple(sorted(news))
        self._tests = tuple([kept_test(test) for test in tests])
        self._deeds = tuple([kept_deed(deed) for deed in deeds])

    def __eq__(self, other):
        return (isinstance(other, Trigger) and self._label == other._label and self._olds == other._olds
                and self._news == other._news and self._tests == other._tests and self._deeds == other._deeds)

    @property
    def label(self):
        """The name."""
        return self._label

    @property
    def olds(self):
        """The ascending tuple of the kinds whose reading sets it off."""
        return self._olds

    @property
    def news(self):
        """The ascending tuple of the kinds whose writing sets it off."""
        return self._news

    @property
    def tests(self):
        """The tuple of the tests, the words of each ascending."""
        return self._tests

    @property
    def deeds(self):
        """The tuple of the deeds."""
        return self._deeds

    def is_set_off_by(self, statement):
        """Tell whether a statement sets it off."""
        reads = statement.reads()
        writes = statement.writes()
        return any([kind in reads for kind in self._olds]) or any([kind in writes for kind in self._news])


def are_triggers(thing):
    """Tell whether any object is a list of as many triggers as a book may have."""
    if not is_list(thing) or len(thing) > MOST_TRIGGERS:
        return False
    return all([isinstance(trigger, Trigger) for trigger in thing])


def deed_fits(deed, kinds, counters):
    """Tell whether some kinds and counters have all names of a deed."""
    if isinstance(deed, Statement):
        return all([kind in kinds for kind in [*deed.reads(), *deed.writes()]])
    if isinstance(deed, str):
        return True
    _, counter, form = deed
    return counter in counters and all([name_in(word) in kinds or word in counters for word in form.parts()])


def trigger_fits(trigger, kinds, counters):
    """Tell whether some kinds and counters have all names of a trigger."""
    tested = [name_in(word) for test in trigger.tests for word in test[0]]
    if not all([kind in kinds for kind in [*trigger.olds, *trigger.news, *tested]]):
        return False
    return all([deed_fits(deed, kinds, counters) for deed in trigger.deeds])


def names_fit(kinds, counters, triggers):
    """Tell whether all names of a book are different, and its triggers have no other kinds and counters."""
    labels = [trigger.label for trigger in triggers]
    if not are_different([*kinds, *counters, *labels]):
        return False
    return all([trigger_fits(trigger, kinds, counters) for trigger in triggers])


def cap_of(triggers):
    """Return the cap of a book that has these triggers."""
    bounds = [bound for trigger in triggers for test in trigger.tests for bound in test[1:] if bound is not None]
    return 1 + max(bounds, default=0)


class Book:
    """An immutable book."""

    def __init__(self, kinds, counters, triggers):
        if not is_names(kinds, 1, MOST_KINDS_OF_BOOK):
            raise BadBook("kinds")
        if not is_names(counters, 0, MOST_COUNTERS):
            raise BadBook("counters")
        if not are_triggers(triggers):
            raise BadBook("triggers")
        if not names_fit(kinds, counters, triggers):
            raise BadBook("names")
        self._kinds = tuple(sorted(kinds))
        self._counters = tuple(sorted(counters))
        self._triggers = tuple(triggers)
        self._cap = cap_of(triggers)

    def __eq__(self, other):
        return (isinstance(other, Book) and self._kinds == other._kinds and self._counters == other._counters
                and self._triggers == other._triggers)

    @property
    def kinds(self):
        """The ascending tuple of the kinds."""
        return self._kinds

    @property
    def counters(self):
        """The ascending tuple of the counters."""
        return self._counters

    @property
    def triggers(self):
        """The tuple of the triggers, in order."""
        return self._triggers

    @property
    def cap(self):
        """1 plus the greatest bound of a test: the triggers see no numbers above it apart."""
        return self._cap

    def text(self):
        """Return the text."""
        lines = [line_of(["kinds", *self._kinds]), line_of(["counters", *self._counters])]
        for trigger in self._triggers:
            lines.extend(trigger_lines(trigger))
        return "\n".join(lines)

    @classmethod
    def parse(cls, text):
        """Return the book that has a text; raise BadText with the first wrong line, then BadBook for wrong names."""
        kinds, counters, triggers = read_book(text)
        return cls(kinds, counters, [Trigger(*told) for told in triggers])
