"""What is the same for all tables, however many rows they have."""

from statementlots.classes import all_classes, by_size
from statementlots.errors import Unknown
from statementlots.ledgers import Ledger
from statementlots.mixes import Scope
from statementlots.runs import check_statement
from statementlots.tables import Table


def least_apart(first, second, pairs):
    """Return a table with as few rows as possible on which two lists of some pair end unlike, by a book each, or None.

    The books have the same kinds and counters.
    """
    ledgers = Ledger(first), Ledger(second)
    bound = max(first.cap, second.cap)
    best = None
    for numbers in by_size(all_classes(len(first.kinds), bound)):
        if best is not None and best.size() <= sum(numbers):
            return best
        scope = Scope(numbers, bound, first.counters)
        for one, two in pairs:
            more = ledgers[0].walk_of_list(scope, one).parting(ledgers[1].walk_of_list(scope, two))
            if more is not None and (best is None or sum(numbers) + sum(more[:len(numbers)]) < best.size()):
                rows = [number + others for number, others in zip(numbers, more)]
                best = Table(dict(zip(first.kinds, rows)), dict(zip(first.counters, more[len(numbers):])))
    return best


def unlike(book, one, two):
    """Return a table with as few rows as possible on which two lists of statements end unlike, or None."""
    for statement in [*one, *two]:
        check_statement(book, statement)
    return least_apart(book, book, [(one, two)])


def check_alike_names(first, second):
    """Raise Unknown for the first name of a kind or a counter that only one of two books has."""
    pairs = [(first.kinds, second.kinds), (first.counters, second.counters)]
    lacking = [name for some, others in pairs for name in [*some, *others] if name not in some or name not in others]
    if len(lacking) > 0:
        raise Unknown(min(lacking))


def books_unlike(first, second, statements):
    """Return a table with as few rows as possible on which a statement ends unlike by two books, or None."""
    check_alike_names(first, second)
    for statement in statements:
        check_statement(first, statement)
    return least_apart(first, second, [([statement], [statement]) for statement in statements])


def idle(book, statements):
    """Return the list of the names of the triggers that fire in none of some statements, in the order of the book."""
    for statement in statements:
        check_statement(book, statement)
    fired = {label: True for call in Ledger(book).calls_of(statements) for label in call.firing}
    return [trigger.label for trigger in book.triggers if trigger.label not in fired]
