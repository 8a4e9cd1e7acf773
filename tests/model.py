"""A base that keeps each row by itself and does what point 9 says word by word, to compare the program with it."""

import sys

from statementlots.statements import Statement

sys.setrecursionlimit(20000)


class ModelRefused(Exception):
    """Refused, by the trigger that is the first argument."""


class ModelEndless(Exception):
    """Statements within statements, more than there are statements and classes."""


class TooMuch(Exception):
    """More statements than callers ask for, or too many rows to keep each of them by itself."""


MOST_ROWS = 500


class Model:
    def __init__(self, book, rows, worths, deepest, most=1000):
        self.book = book
        self.rows = [kind for kind, number in sorted(rows.items()) for _ in range(number)]
        self.worths = {counter: worths.get(counter, 0) for counter in book.counters}
        self.fired = {trigger.label: 0 for trigger in sorted(book.triggers, key=lambda trigger: trigger.label)}
        self.deepest = deepest
        self.most = most

    def do(self, statement, picks=None, depth=0):
        if depth > self.deepest:
            raise ModelEndless()
        if self.most == 0 or len(self.rows) > MOST_ROWS:
            raise TooMuch()
        self.most -= 1
        left = dict(picks or {})
        old, new, others = [], [], []
        for row in self.rows:
            if row not in statement.turns() or left.get(row, 1) == 0:
                others.append(row)
                continue
            if row in left:
                left[row] -= 1
            old.append(row)
            new.extend(statement.turns()[row])
        for kind, number in statement.brings().items():
            new.extend([kind] * number)
        self.rows = others + new
        written = {kind for kinds in statement.turns().values() for kind in kinds} | set(statement.brings())
        for trigger in self.book.triggers:
            if set(trigger.olds) & set(statement.turns()) or set(trigger.news) & written:
                self.fire(trigger, old, new, depth)

    def worth(self, word, old, new):
        if word.startswith("old."):
            return old.count(word[4:])
        if word.startswith("new."):
            return new.count(word[4:])
        return self.worths[word] if word in self.worths else self.rows.count(word)

    def fire(self, trigger, old, new, depth):
        for words, least, most in trigger.tests:
            number = sum(self.worth(word, old, new) for word in words)
            if number < least or (most is not None and number > most):
                return
        self.fired[trigger.label] += 1
        for deed in trigger.deeds:
            if deed == "refuse":
                raise ModelRefused(trigger.label)
            if isinstance(deed, Statement):
                self.do(deed, None, depth + 1)
                continue
            verb, counter, form = deed
            worth = form.integer
            for word, times in form.parts().items():
                worth += times * self.worth(word, old, new)
            self.worths[counter] = worth + (self.worths[counter] if verb == "add" else 0)


def deepest_of(book):
    """Return a number of statements, one within another, of which two must be equal and begin at the same class."""
    deeds = {deed.text() for trigger in book.triggers for deed in trigger.deeds if isinstance(deed, Statement)}
    return (1 + len(deeds)) * (book.cap + 1) ** len(book.kinds)


def end_of(book, rows, worths, statement, picks=None):
    """Return what becomes of a table: how it ends, its rows and worths, and how often each trigger fires."""
    model = Model(book, rows, worths, deepest_of(book))
    try:
        model.do(statement, picks)
    except ModelRefused as error:
        return ("refused", error.args[0])
    except ModelEndless:
        return ("endless",)
    return ("done", {kind: model.rows.count(kind) for kind in book.kinds}, model.worths, model.fired)
