"""Live bases: tables on which statements are done, undone, and done again."""

from statementlots.errors import NoDeed
from statementlots.runs import check_table, run
from statementlots.values import sums


class Base:
    """A table on which statements are done by a book."""

    def __init__(self, book, table):
        check_table(book, table)
        self._book = book
        # The states that there have been, up to those that can be done again; each has a table and a dict.
        self._states = [(table, {trigger.label: 0 for trigger in book.triggers})]
        self._at = 0

    @property
    def book(self):
        """The book."""
        return self._book

    def now(self):
        """Return the table as it is now."""
        return self._states[self._at][0]

    def fired(self):
        """Return the dict from the names of all triggers, ascending, to how often they have fired."""
        fired = self._states[self._at][1]
        return {name: fired[name] for name in sorted(fired)}

    def do(self, statement, picks=None):
        """Do a statement, and return the table in the end."""
        outcome = run(self._book, self.now(), statement, picks)
        return self.come_to(outcome.table, sums(self.fired(), outcome.fired()))

    def do_all(self, statements):
        """Do a list of statements, which is undone as one, and return the table in the end."""
        table, fired = self.now(), self.fired()
        for statement in statements:
            outcome = run(self._book, table, statement)
            table, fired = outcome.table, sums(fired, outcome.fired())
        return self.come_to(table, fired)

    def come_to(self, table, fired):
        """Keep what has come of a deed, in the place of all that might have been done again, and return the table."""
        self._at += 1
        del self._states[self._at:]
        self._states.append((table, fired))
        return table

    def undo(self):
        """Undo what was done last, and return the table."""
        if self._at == 0:
            raise NoDeed()
        self._at -= 1
        return self.now()

    def again(self):
        """Do again what was undone last, and return the table."""
        if self._at + 1 == len(self._states):
            raise NoDeed()
        self._at += 1
        return self.now()
