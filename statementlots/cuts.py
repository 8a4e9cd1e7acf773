"""Cuts: statements that are done in two goes, on parts of their rows."""

from statementlots.classes import all_classes, by_size
from statementlots.errors import Endless, Refused
from statementlots.ledgers import DONE, ENDLESS, Ledger, REFUSED, Walk
from statementlots.mixes import Scope
from statementlots.runs import check_statement, check_table, checked_picks
from statementlots.statements import Statement
from statementlots.tables import Table


class Cutter:
    """A statement that is done on parts of its rows by a book."""

    def __init__(self, book, statement):
        self._book = book
        self._ledger = Ledger(book)
        self._statement = statement

    def go(self, scope, mixes, statement, taken):
        """Return the walk of a statement that takes so many rows."""
        walk = Walk(self._book, scope, mixes)
        walk.begin(statement, taken)
        return self._ledger.finished(walk)

    def in_one_go(self, scope, mixes, first, second):
        """Return the walk of the statement if it takes the rows of both picks at once."""
        taken = {kind: scope.total([first[kind], second[kind]]) for kind in first}
        return self.go(scope, mixes, self._statement, taken)

    def in_two_goes(self, scope, mixes, first, second):
        """Return the walk that the statement ends with if it takes the rows of the picks in two goes."""
        walk = self.go(scope, mixes, self._statement, first)
        if walk.end != DONE:
            return walk
        taken = {kind: scope.total([mix for other, mix in second.items() if walk.fates[other] == kind])
                 for kind in second}
        if all([mix == scope.fixed(0) for mix in taken.values()]):
            return walk
        # What the statement brings has come with the first go.
        return self.go(scope, walk.mixes, Statement(self._statement.turns()), taken)


def two_goes(book, table, statement, first, second):
    """Do a statement in two goes, on the rows of first and of second picks, and return the table in the end."""
    check_table(book, table)
    check_statement(book, statement)
    none = {kind: 0 for kind in statement.reads()}
    taken = {**none, **checked_picks(first, {kind: table.rows(kind) for kind in none})}
    others = {**none, **checked_picks(second, {kind: table.rows(kind) - taken[kind] for kind in none})}
    # Nothing is unknown here.
    scope = Scope((), book.cap, ())
    rows = {kind: scope.fixed(table.rows(kind)) for kind in book.kinds}
    worths = {counter: scope.fixed(table.worth(counter)) for counter in book.counters}
    picks = [{kind: scope.fixed(number) for kind, number in picked.items()} for picked in (taken, others)]
    walk = Cutter(book, statement).in_two_goes(scope, {**rows, **worths}, picks[0], picks[1])
    if walk.end == REFUSED:
        raise Refused(walk.refuser)
    if walk.end == ENDLESS:
        raise Endless()
    return Table({kind: walk.mixes[kind][0] for kind in rows}, {counter: walk.mixes[counter][0] for counter in worths})


def told_apart(reads, kinds, things):
    """Return the dicts of what a list has for first picks, for second picks, and for all other rows, in this order."""
    many = len(reads)
    return dict(zip(reads, things)), dict(zip(reads, things[many:])), dict(zip(kinds, things[2 * many:]))


def shown_at(book, cutter, reads, numbers):
    """Return a table and both picks at which the ends in two goes and in one are unlike, or None.

    The numbers are those of the rows of the first picks, of the second ones, and of all others. What is the cap may be
    greater as well, but there are no more rows than there must be.
    """
    scope = Scope(numbers, book.cap, book.counters)
    first, second, others = told_apart(reads, book.kinds, [scope.rows_at(index) for index in range(len(numbers))])
    rows = {kind: scope.total([picks[kind] for picks in (first, second, others) if kind in picks]) for kind in others}
    mixes = {**rows, **scope.worths_at()}
    one = cutter.in_one_go(scope, mixes, first, second)
    more = cutter.in_two_goes(scope, mixes, first, second).parting(one)
    if more is None:
        return None
    exact = [number + others for number, others in zip(numbers, more)]
    first, second, others = told_apart(reads, book.kinds, exact)
    whole = {kind: first.get(kind, 0) + second.get(kind, 0) + number for kind, number in others.items()}
    return Table(whole, dict(zip(book.counters, more[len(numbers):]))), first, second


def uncuttable(book, statement):
    """Return a table with as few rows as possible, and picks, that show that a statement may not be cut, or None."""
    check_statement(book, statement)
    cutter = Cutter(book, statement)
    reads = statement.reads()
    many = len(reads)
    best = None
    for numbers in by_size(all_classes(2 * many + len(book.kinds), book.cap)):
        if best is not None and best[0].size() <= sum(numbers):
            return best
        # Each go is to take a row.
        if sum(numbers[:many]) > 0 and sum(numbers[many:2 * many]) > 0:
            found = shown_at(book, cutter, reads, numbers)
            if found is not None and (best is None or found[0].size() < best[0].size()):
                best = found
    return best
