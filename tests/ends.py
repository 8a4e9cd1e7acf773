"""How lists of statements end by `run` alone, and all tables with few rows, to check least tables by."""

import itertools

from statementlots.errors import Endless, Refused
from statementlots.runs import run
from statementlots.tables import Table


def end_by_runs(book, table, statements):
    """Return the end of a list of statements: a tuple of a word and, if it is done, of all numbers and worths."""
    try:
        for statement in statements:
            table = run(book, table, statement).table
    except Refused:
        return ("refused",)
    except Endless:
        return ("endless",)
    return ("done", *shown(table))


def shown(table):
    """Return the dicts of the numbers of rows and of the worths of a table."""
    return ({kind: table.rows(kind) for kind in table.row_kinds()},
            {counter: table.worth(counter) for counter in table.counter_names()})


def numbers_of(many, size):
    """Return all tuples of so many integers from 0 on that have this sum."""
    if many == 0:
        return [()] if size == 0 else []
    return [(first, *others) for first in range(size + 1) for others in numbers_of(many - 1, size - first)]


def tables_of(book, size, few=False):
    """Return all tables that have so many rows, with some worths of the counters, or with a few."""
    many = len(book.counters)
    worths = [(0, 0, 0)[:many], (3, -5, 11)[:many]] if few else list(itertools.product((0, 1, -7), repeat=many))
    return [Table(dict(zip(book.kinds, numbers)), dict(zip(book.counters, some)))
            for numbers in numbers_of(len(book.kinds), size) for some in worths]
