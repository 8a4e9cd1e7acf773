"""Lists of statements that are done many times, one list behind another."""

from statementlots.errors import Endless, Refused
from statementlots.ledgers import ENDLESS, Ledger, REFUSED
from statementlots.mixes import Scope
from statementlots.runs import check_statement, check_table, class_of


def round_from(book, ledger, numbers, statements):
    """Return the class after a list of statements, and the mixes of all names, told by the worths ahead."""
    walk = ledger.walk_of_list(Scope(numbers, book.cap, book.counters), statements)
    if walk.end == REFUSED:
        raise Refused(walk.refuser)
    if walk.end == ENDLESS:
        raise Endless()
    return walk.class_now(), [walk.mixes[name] for name in [*book.kinds, *book.counters]]


def after(mixes, worths, modulus):
    """Return the worths that mixes of some worths have, modulo an integer."""
    return [(mix[0] + sum([times * worth for times, worth in zip(mix[1:], worths)])) % modulus for mix in mixes]


def behind(first, second, modulus):
    """Return the mixes that lead where first ones and second ones behind them lead, modulo an integer."""
    columns = [list(column) for column in zip(*first)]
    found = []
    for mix in second:
        products = [sum([times * integer for times, integer in zip(mix[1:], column)]) for column in columns]
        found.append([integer % modulus for integer in [mix[0] + products[0], *products[1:]]])
    return found


def after_many(mixes, worths, times, modulus):
    """Return the worths behind so many times the same mixes, modulo an integer."""
    while times > 0:
        if times % 2 == 1:
            worths = after(mixes, worths, modulus)
        mixes = behind(mixes, mixes, modulus)
        times = times // 2
    return worths


def after_rounds(rounds, start, worths, times, modulus):
    """Return the worths behind so many rounds, of which those from the start on come again and again."""
    for mixes in rounds[:start]:
        worths = after(mixes, worths, modulus)
    ring = rounds[start:]
    if len(ring) == 0:
        return worths
    once = ring[0]
    for mixes in ring[1:]:
        once = behind(once, mixes, modulus)
    whole, rest = divmod(times - start, len(ring))
    worths = after_many(once, worths, whole, modulus)
    for mixes in ring[:rest]:
        worths = after(mixes, worths, modulus)
    return worths


def done_many(book, statements, table, times, modulus):
    """Return the numbers of rows and the worths, modulo an integer, if a list of statements is done so many times."""
    for statement in statements:
        check_statement(book, statement)
    check_table(book, table)
    ledger = Ledger(book)
    numbers = class_of(book, table)
    rounds = []
    begun = {}
    # From the first class on that comes once more all goes round: nothing is refused or endless any more.
    while len(rounds) < times and numbers not in begun:
        begun[numbers] = len(rounds)
        numbers, mixes = round_from(book, ledger, numbers, statements)
        rounds.append(mixes)
    start = begun[numbers] if len(rounds) < times else len(rounds)
    rows = [table.rows(kind) for kind in book.kinds]
    worths = rows + [table.worth(counter) for counter in book.counters]
    ends = dict(zip([*book.kinds, *book.counters], after_rounds(rounds, start, worths, times, modulus)))
    return {name: ends[name] % modulus for name in sorted(ends)}
