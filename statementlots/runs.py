"""Statements that are done on a table by a book, and the classes of tables."""

from statementlots.errors import BadPicks, Endless, Refused, Unknown
from statementlots.statements import Statement
from statementlots.tables import Table
from statementlots.triggerparts import ADD
from statementlots.values import is_integer, is_name, pairs_of
from statementlots.words import NEW, OLD


class Outcome:
    """What has become of a table, and how often each trigger has fired."""

    def __init__(self, table, fired):
        self._table = table
        self._fired = {name: fired[name] for name in sorted(fired)}

    def __eq__(self, other):
        return isinstance(other, Outcome) and self._table == other._table and self._fired == other._fired

    @property
    def table(self):
        """The table in the end."""
        return self._table

    def fired(self):
        """Return the dict from the names of all triggers, ascending, to how often they have fired."""
        return dict(self._fired)


def lots_of(statement, taken):
    """Return the dict from the words of both lots of a statement to their numbers, if it takes so many rows."""
    lots = {OLD + kind: number for kind, number in taken.items()}
    for kind, kinds in statement.turns().items():
        for other in kinds:
            lots[NEW + other] = lots.get(NEW + other, 0) + taken[kind]
    for kind, number in statement.brings().items():
        lots[NEW + kind] = lots.get(NEW + kind, 0) + number
    return lots


def holds(test, worths):
    """Tell whether a test holds; a word that the dict of the worths lacks has 0."""
    words, least, most = test
    worth = sum([worths.get(word, 0) for word in words])
    return least <= worth and (most is None or worth <= most)


class Going:
    """A statement under way."""

    def __init__(self, call, lots, triggers):
        self.call = call
        self.lots = lots
        # In both lists what comes next stands last.
        self.waiting = list(reversed(triggers))
        self.to_do = []
        self.firing = ""


class Course:
    """A base while one statement is done on it, and within this all that triggers do."""

    def __init__(self, book, table):
        self._book = book
        rows = {kind: table.rows(kind) for kind in book.kinds}
        self.worths = {**rows, **{counter: table.worth(counter) for counter in book.counters}}
        self.times = {trigger.label: 0 for trigger in book.triggers}
        # A trigger may set off hundreds of statements, each within another one: too many for calls within calls.
        self.stack = []
        self.under_way = {}

    def rows_now(self):
        """Return the dict from the kinds to the numbers of rows that there are now."""
        return {kind: self.worths[kind] for kind in self._book.kinds}

    def table_now(self):
        """Return the table as it is now."""
        return Table(self.rows_now(), {counter: self.worths[counter] for counter in self._book.counters})

    def begin(self, statement, taken, call):
        """Change the rows as a statement does that takes so many, and let the triggers that it sets off wait."""
        lots = lots_of(statement, taken)
        for kind in self._book.kinds:
            self.worths[kind] += lots.get(NEW + kind, 0) - lots.get(OLD + kind, 0)
        triggers = [trigger for trigger in self._book.triggers if trigger.is_set_off_by(statement)]
        self.stack.append(Going(call, lots, triggers))

    def begin_whole(self, statement):
        """Begin a statement that takes all of its rows; raise Endless if it begins once more within itself."""
        rows = self.rows_now()
        call = (statement.text(), class_of_rows(self._book, rows))
        if call in self.under_way:
            raise Endless()
        self.under_way[call] = True
        self.begin(statement, {kind: rows[kind] for kind in statement.reads()}, call)

    def go_on(self):
        """Do all that is still to be done of the statements under way."""
        while len(self.stack) > 0:
            going = self.stack[-1]
            if len(going.to_do) > 0:
                self.do_deed(going, going.to_do.pop())
            elif len(going.waiting) > 0:
                self.take_turn(going, going.waiting.pop())
            else:
                self.stack.pop()
                self.under_way.pop(going.call, None)

    def take_turn(self, going, trigger):
        """Let a trigger fire, if its tests hold."""
        worths = {**self.worths, **going.lots}
        if all([holds(test, worths) for test in trigger.tests]):
            self.times[trigger.label] += 1
            going.firing = trigger.label
            going.to_do = list(reversed(trigger.deeds))

    def do_deed(self, going, deed):
        """Do a deed of the trigger that a statement has fired; of a statement, only begin it."""
        if isinstance(deed, Statement):
            self.begin_whole(deed)
        elif isinstance(deed, str):
            # The one deed that is told by a string alone is to refuse.
            raise Refused(going.firing)
        else:
            verb, counter, form = deed
            worth = form.of({**self.worths, **going.lots})
            self.worths[counter] = self.worths[counter] + worth if verb == ADD else worth


def class_of_rows(book, rows):
    """Return the class of the tables that have some rows, told by a dict from all kinds of a book."""
    return tuple([min(rows[kind], book.cap) for kind in book.kinds])


def check_table(book, table):
    """Raise Unknown for the first name in a table that a book has not."""
    for kind in table.row_kinds():
        if kind not in book.kinds:
            raise Unknown(kind)
    for counter in table.counter_names():
        if counter not in book.counters:
            raise Unknown(counter)


def check_statement(book, statement):
    """Raise Unknown for the first kind that a statement reads, or else writes, and that a book has not."""
    for kind in [*statement.reads(), *statement.writes()]:
        if kind not in book.kinds:
            raise Unknown(kind)


def checked_picks(picks, most):
    """Return the dict of the picks; raise BadPicks for the first one not in the dict of what may be picked at most."""
    pairs = pairs_of(picks)
    for kind, number in pairs:
        # Other objects are perhaps equal to a kind.
        if not is_name(kind) or kind not in most:
            raise BadPicks(kind)
        if not is_integer(number) or not 0 <= number <= most[kind]:
            raise BadPicks(kind)
    return dict(pairs)


def run(book, table, statement, picks=None):
    """Do a statement on a table by a book, on the rows that are picked, and return the outcome."""
    check_table(book, table)
    check_statement(book, statement)
    most = {kind: table.rows(kind) for kind in statement.reads()}
    course = Course(book, table)
    if picks is None:
        course.begin_whole(statement)
    else:
        picked = checked_picks(picks, most)
        # What takes a part of its rows only is not begun once more by what takes all of them.
        course.begin(statement, {**most, **picked}, None)
    course.go_on()
    return Outcome(course.table_now(), course.times)


def class_of(book, table):
    """Return the class of a table: the numbers of rows of the kinds, those above the cap told as the cap."""
    return class_of_rows(book, {kind: table.rows(kind) for kind in book.kinds})


def least_table(book, numbers):
    """Return the table that has the numbers of rows of a class, and 0 as the worth of each counter."""
    return Table({kind: number for kind, number in zip(book.kinds, numbers)})
