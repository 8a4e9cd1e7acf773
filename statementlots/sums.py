"""Sums that are kept for ever, whatever some statements do."""

from statementlots.errors import Unknown
from statementlots.forms import Form
from statementlots.ledgers import DONE, Ledger
from statementlots.runs import check_statement, check_table, class_of_rows
from statementlots.spans import Span


def names_of(book):
    """Return the ascending list of the kinds and the counters of a book."""
    return sorted([*book.kinds, *book.counters])


def worths_of(book, table):
    """Return the dict of the numbers of rows and the worths that a table has of all names of a book."""
    rows = {kind: table.rows(kind) for kind in book.kinds}
    return {**rows, **{counter: table.worth(counter) for counter in book.counters}}


def worths_after(call, worths):
    """Return the dict of the worths that a call leads to from some worths."""
    changed = {name: number + sum([times * worths[word] for word, times in parts])
               for name, number, parts in call.changes()}
    return {**worths, **changed}


def check_all(book, statements, first):
    """Raise Unknown for the first wrong statement, then for the table."""
    for statement in statements:
        check_statement(book, statement)
    check_table(book, first)


class Comers:
    """Tables that come from a first one, enough of each class to know the space in which all of these lie."""

    def __init__(self, book, statements, first):
        self._book = book
        self._ledger = Ledger(book)
        self._statements = statements
        self._names = names_of(book)
        self._spans = {}
        # Tuples of the indexes of the statements that lead to a table, and of its worths; the shortest ways first.
        self.ways = []
        self.come((), worths_of(book, first))
        at = 0
        while at < len(self.ways):
            self.go_from(self.ways[at])
            at += 1

    def come(self, indexes, worths):
        """Keep a table that comes, unless it lies in the space of those of its class that have come."""
        numbers = class_of_rows(self._book, worths)
        if numbers not in self._spans:
            self._spans[numbers] = Span([])
        row = [worths[name] for name in self._names]
        # The 1 is for sums of multiples: those of tables lie in their space if the multiples have the sum 1.
        if self._spans[numbers].grows_by([1, *row]):
            self.ways.append((indexes, worths))

    def go_from(self, way):
        """Do each statement on the table of a way."""
        indexes, worths = way
        numbers = class_of_rows(self._book, worths)
        for index, statement in enumerate(self._statements):
            call = self._ledger.call_of(statement, numbers)
            if call.end == DONE:
                self.come((*indexes, index), worths_after(call, worths))


def kept(book, statements, first):
    """Return the list of the forms of the basis of those that are kept."""
    check_all(book, statements, first)
    names = names_of(book)
    rows = [[worths[name] for name in names] for _, worths in Comers(book, statements, first).ways]
    moves = Span([[one - other for one, other in zip(row, rows[0])] for row in rows])
    return [Form(dict(zip(names, row))) for row in moves.normal(len(names)).basis()]


def first_breaking(book, statements, first, form):
    """Return a shortest tuple of indexes that leads to another worth of a form, None if there is none."""
    check_all(book, statements, first)
    for word in form.parts():
        if word not in book.kinds and word not in book.counters:
            raise Unknown(word)
    worth = form.of(worths_of(book, first))
    # A shortest way to another worth is among the ways: all that comes as soon is told by these.
    for indexes, worths in Comers(book, statements, first).ways:
        if form.of(worths) != worth:
            return indexes
    return None


def is_kept(book, statements, first, form):
    """Tell whether a form has the same worth for all tables that come."""
    return first_breaking(book, statements, first, form) is None


def breaking(book, statements, first, form):
    """Return a shortest list of indexes that leads to another worth of a form than at first, None if it is kept."""
    indexes = first_breaking(book, statements, first, form)
    return None if indexes is None else list(indexes)


def shown(book, statements, first):
    """Return a list of tuples of indexes of statements that lead to tables which show what forms are kept."""
    check_all(book, statements, first)
    return [indexes for indexes, _ in Comers(book, statements, first).ways]
