"""Tables: numbers of rows by their kinds, and worths of counters."""

from statementlots.errors import BadTable
from statementlots.values import is_integer, is_name, pairs_of, sums


def named_integers(told, may_be_negative):
    """Return the dict of the names that are told an integer other than 0; raise BadTable for the first wrong one."""
    pairs = pairs_of(told)
    for name, number in pairs:
        if not is_name(name) or not is_integer(number):
            raise BadTable(name)
        if number < 0 and not may_be_negative:
            raise BadTable(name)
    # Without the names that have 0, equal tables have equal dicts.
    return {name: number for name, number in pairs if number != 0}


class Table:
    """An immutable table."""

    def __init__(self, rows, counters=()):
        self._numbers = named_integers(rows, False)
        self._worths = named_integers(counters, True)

    def __eq__(self, other):
        return isinstance(other, Table) and self._numbers == other._numbers and self._worths == other._worths

    def __add__(self, other):
        if not isinstance(other, Table):
            return NotImplemented
        return Table(sums(self._numbers, other._numbers), sums(self._worths, other._worths))

    def rows(self, kind):
        """Return the number of rows of a kind, 0 for any object that is told none."""
        # Other objects are perhaps no keys of a dict.
        return self._numbers.get(kind, 0) if is_name(kind) else 0

    def worth(self, counter):
        """Return the worth of a counter, 0 for any object that is told none."""
        return self._worths.get(counter, 0) if is_name(counter) else 0

    def row_kinds(self):
        """Return the ascending list of the kinds of which there are rows."""
        return sorted(self._numbers)

    def counter_names(self):
        """Return the ascending list of the counters whose worth is not 0."""
        return sorted(self._worths)

    def size(self):
        """Return the number of all rows."""
        return sum(self._numbers.values())
