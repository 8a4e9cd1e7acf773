"""Papers: what calls lead to, so that anybody can check it."""

from statementlots.errors import BadClass
from statementlots.forms import Form
from statementlots.ledgers import DONE, ENDLESS, Ledger, REFUSED
from statementlots.runs import check_statement
from statementlots.values import is_integer, is_list


def checked_class(book, numbers):
    """Return a class of a book as a tuple; raise BadClass for the first thing in it that is wrong."""
    if not is_list(numbers):
        raise BadClass(len(book.kinds))
    for index, number in enumerate(numbers):
        if not is_integer(number) or not 0 <= number <= book.cap:
            raise BadClass(index)
    if len(numbers) != len(book.kinds):
        raise BadClass(len(book.kinds))
    return tuple(numbers)


def outcome_of(call):
    """Return the outcome of a call that is at its end."""
    if call.end == REFUSED:
        return REFUSED, call.refuser
    if call.end == ENDLESS:
        return (ENDLESS,)
    forms = {name: Form(dict(parts), number) for name, number, parts in call.effect()}
    return DONE, {name: forms[name] for name in sorted(forms)}


def outcome(book, statement, numbers):
    """Return the outcome of the call of a statement and a class."""
    check_statement(book, statement)
    known = checked_class(book, numbers)
    return outcome_of(Ledger(book).call_of(statement, known))


def calls(book, statements):
    """Return the least paper with the calls that begin when one of some statements is done on some table."""
    for statement in statements:
        check_statement(book, statement)
    found = Ledger(book).calls_of(statements)
    return [(call.statement, call.numbers, call.rank, outcome_of(call)) for call in found]


def ranks_fit(call, ranks):
    """Tell whether the rank of a call fits those of its inner calls, told by a dict from texts and classes."""
    inner = [(statement.text(), numbers) for statement, numbers in call.inner]
    if not all([key in ranks for key in inner]):
        return False
    rank = ranks[(call.statement.text(), call.numbers)]
    if call.end == ENDLESS:
        return rank is None and ranks[inner[-1]] is None
    return rank is not None and all([ranks[key] is not None and ranks[key] < rank for key in inner])


def is_paper(book, rows):
    """Tell whether a list of rows is a paper."""
    for statement, numbers, _, _ in rows:
        check_statement(book, statement)
        checked_class(book, numbers)
    ranks = {(statement.text(), tuple(numbers)): rank for statement, numbers, rank, _ in rows}
    if len(ranks) != len(rows):
        return False
    # In a paper each outcome is that of its call, so that one which is not makes all of it wrong.
    ledger = Ledger(book)
    for statement, numbers, _, told in rows:
        call = ledger.call_of(statement, tuple(numbers))
        if tuple(told) != outcome_of(call) or not ranks_fit(call, ranks):
            return False
    return True
