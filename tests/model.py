"""A base that keeps each row by itself and does what point 9 says word by word, to compare the program with it."""

import sys

from statementlots.statements import Statement

sys.setrecursionlimit(20000)


class ModelRefused(Exception):
    """Refused, by the trigger that is the first argument."""


class ModelEndless(Exception):
    """Statements within statements, more than there are statements and classes."""


class TooMuch(Exception):
    """More statements than callers ask for, or too many rows to keep each of them by itself."""


MOST_ROWS = 500


class Row:
    def __init__(self, kind, mark=None):
        self.kind = kind
        self.mark = mark


class Call:
    """A statement that takes all of its rows, the class of the table ahead, and the calls that its triggers do."""

    def __init__(self, statement, numbers):
        self.statement = statement
        self.key = (statement.text(), numbers)
        self.inner = []
        self.firing = []


class Model:
    def __init__(self, book, rows, worths, deepest, most=1000):
        self.book = book
        self.rows = [Row(kind) for kind, number in sorted(rows.items()) for _ in range(number)]
        self.worths = {counter: worths.get(counter, 0) for counter in book.counters}
        self.fired = {trigger.label: 0 for trigger in sorted(book.triggers, key=lambda trigger: trigger.label)}
        self.deepest = deepest
        self.most = most
        self.calls = []

    def count(self, kind):
        return sum(row.kind == kind for row in self.rows)

    def do_all(self, statement, depth=0):
        """Do a statement on all of its rows; return the call."""
        call = Call(statement, tuple(min(self.count(kind), self.book.cap) for kind in self.book.kinds))
        self.calls.append(call)
        self.do(statement, [row for row in self.rows if row.kind in statement.turns()], call, depth)
        return call

    def mark(self, picks, mark):
        """Give so many rows of each kind, that have no mark yet, this mark."""
        for kind, number in picks.items():
            free = [row for row in self.rows if row.kind == kind and row.mark is None]
            for row in free[:number]:
                row.mark = mark

    def do_marked(self, statement, mark):
        """Do a statement on the rows that it reads and that have a mark."""
        taken = [row for row in self.rows if row.kind in statement.turns() and row.mark == mark]
        self.do(statement, taken, Call(statement, None), 0)
        return len(taken)

    def do(self, statement, taken, call, depth):
        if depth > self.deepest:
            raise ModelEndless()
        if self.most == 0 or len(self.rows) > MOST_ROWS:
            raise TooMuch()
        self.most -= 1
        old = [row.kind for row in taken]
        new, come = [], []
        for row in taken:
            kinds = statement.turns()[row.kind]
            new.extend(kinds)
            row.kind = kinds[0] if kinds else None
            come.extend(Row(kind) for kind in kinds[1:])
        for kind, number in statement.brings().items():
            new.extend([kind] * number)
            come.extend(Row(kind) for _ in range(number))
        self.rows = [row for row in self.rows if row.kind is not None] + come
        written = {kind for kinds in statement.turns().values() for kind in kinds} | set(statement.brings())
        for trigger in self.book.triggers:
            if set(trigger.olds) & set(statement.turns()) or set(trigger.news) & written:
                self.fire(trigger, old, new, call, depth)

    def worth(self, word, old, new):
        if word.startswith("old."):
            return old.count(word[4:])
        if word.startswith("new."):
            return new.count(word[4:])
        return self.worths[word] if word in self.worths else self.count(word)

    def fire(self, trigger, old, new, call, depth):
        for words, least, most in trigger.tests:
            number = sum(self.worth(word, old, new) for word in words)
            if number < least or (most is not None and number > most):
                return
        self.fired[trigger.label] += 1
        call.firing.append(trigger.label)
        for deed in trigger.deeds:
            if deed == "refuse":
                raise ModelRefused(trigger.label)
            if isinstance(deed, Statement):
                # Behind this the call has the inner call also if it never comes to its end.
                known = len(self.calls)
                try:
                    self.do_all(deed, depth + 1)
                finally:
                    call.inner.append(self.calls[known].key)
                continue
            verb, counter, form = deed
            worth = form.integer
            for word, times in form.parts().items():
                worth += times * self.worth(word, old, new)
            self.worths[counter] = worth + (self.worths[counter] if verb == "add" else 0)


def deepest_of(book):
    """Return a number of statements, one within another, of which two must be equal and begin at the same class."""
    deeds = {deed.text() for trigger in book.triggers for deed in trigger.deeds if isinstance(deed, Statement)}
    return (1 + len(deeds)) * (book.cap + 1) ** len(book.kinds)


def model_of(book, rows, worths):
    return Model(book, rows, worths, deepest_of(book))


def told(model, do):
    """Return how a model ends by something that is done on it: what it tells, and its rows and worths."""
    try:
        do()
    except ModelRefused as error:
        return ("refused", error.args[0])
    except ModelEndless:
        return ("endless",)
    return ("done", {kind: model.count(kind) for kind in model.book.kinds}, model.worths)


def end_of(book, rows, worths, statement, picks=None):
    """Return what becomes of a table: how it ends, its rows and worths, and how often each trigger fires."""
    model = model_of(book, rows, worths)
    if picks is None:
        end = told(model, lambda: model.do_all(statement))
    else:
        model.mark({kind: picks.get(kind, rows.get(kind, 0)) for kind in statement.turns()}, "picked")
        end = told(model, lambda: model.do_marked(statement, "picked"))
    return (*end, model.fired) if end[0] == "done" else end


def end_of_list(book, rows, worths, statements):
    """Return how a list of statements ends, one behind another: what it tells, and the rows and worths."""
    model = model_of(book, rows, worths)
    return told(model, lambda: [model.do_all(statement) for statement in statements])


def end_of_goes(book, rows, worths, statement, many):
    """Return how a statement ends in goes by a list of picks, the first one with all that it brings."""
    model = model_of(book, rows, worths)
    for mark, picks in enumerate(many):
        model.mark(picks, mark)

    def go():
        model.do_marked(statement, 0)
        for mark in range(1, len(many)):
            if any(row.mark == mark and row.kind in statement.turns() for row in model.rows):
                model.do_marked(Statement(statement.turns()), mark)
    return told(model, go)


def calls_of(book, rows, statement):
    """Return all calls that begin when a statement is done on all of its rows, itself first, in their order."""
    model = model_of(book, rows, {})
    told(model, lambda: model.do_all(statement))
    return model.calls
