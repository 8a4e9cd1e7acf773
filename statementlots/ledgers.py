"""What statements lead to on all tables of a class at once."""

from statementlots.classes import all_classes
from statementlots.mixes import Scope
from statementlots.runs import holds
from statementlots.statements import Statement
from statementlots.triggerparts import ADD
from statementlots.words import NEW, OLD

DONE = "done"
REFUSED = "refused"
ENDLESS = "endless"
# The fate of a row that goes; no kind is called so.
GONE = ""


class Walk:
    """A statement on its way through all tables of a scope, until it is at its end."""

    def __init__(self, book, scope, mixes):
        self._book = book
        self.scope = scope
        self.mixes = dict(mixes)
        self.end = ""
        self.refuser = ""
        self.rank = 0
        # The triggers of the statement itself that fire, and the calls that these do, in order.
        self.firing = []
        self.inner = []
        # What becomes of the rows that the statement does not pick, by the kinds that they had ahead.
        self.fates = {kind: kind for kind in book.kinds}
        self._lots = {}
        # In both lists what comes next stands last.
        self._waiting = []
        self._to_do = []

    def begin(self, statement, taken):
        """Change the rows as a statement does that takes so many, told by a dict from the kinds that it reads."""
        turns = statement.turns()
        brings = statement.brings()
        self._lots = {OLD + kind: mix for kind, mix in taken.items()}
        for kind in statement.writes():
            parts = [(source, kinds.count(kind)) for source, kinds in turns.items()]
            self._lots[NEW + kind] = self.scope.blend(brings.get(kind, 0), parts, taken)
        ahead = self.worded()
        for kind in self._book.kinds:
            self.mixes[kind] = self.scope.blend(0, [(kind, 1), (OLD + kind, -1), (NEW + kind, 1)], ahead)
        self._waiting = [trigger for trigger in reversed(self._book.triggers) if trigger.is_set_off_by(statement)]

    def begin_whole(self, statement):
        """Change the rows as a statement does that takes all of its rows."""
        self.begin(statement, {kind: self.mixes[kind] for kind in statement.reads()})
        for kind, kinds in statement.turns().items():
            self.fates[kind] = kinds[0] if len(kinds) > 0 else GONE

    def worded(self):
        """Return the dict from all words to their mixes as they are now."""
        return {**self.mixes, **self._lots}

    def class_now(self):
        """Return the class that all of the tables are of now."""
        least = [self.scope.least_of(self.mixes[kind]) for kind in self._book.kinds]
        return tuple([min(number, self._book.cap) for number in least])

    def go_on(self, ledger):
        """Do what is to be done; return the next inner call that the ledger does not know yet, None at the end."""
        while self.end == "":
            if len(self._to_do) > 0:
                deed = self._to_do[-1]
                if isinstance(deed, Statement):
                    numbers = self.class_now()
                    inner = ledger.known(deed, numbers)
                    if inner is None:
                        return deed, numbers
                    self.do_inner(deed, numbers, inner)
                else:
                    self.do_deed(deed)
                self._to_do.pop()
            elif len(self._waiting) > 0:
                self.take_turn(self._waiting.pop())
            else:
                self.end = DONE
        return None

    def take_turn(self, trigger):
        """Let a trigger fire, if its tests hold."""
        if len(trigger.tests) == 0 or self.all_hold(trigger.tests):
            self.firing.append(trigger.label)
            self._to_do = list(reversed(trigger.deeds))

    def all_hold(self, tests):
        """Tell whether some tests hold on all of the tables; if not, they hold on none."""
        # The tests see no numbers above the cap apart, so that the least of the tables stands for all.
        worths = {word: self.scope.least_of(mix) for word, mix in self.worded().items()}
        return all([holds(test, worths) for test in tests])

    def do_deed(self, deed):
        """Do a deed, other than a statement, of the trigger that has fired last."""
        if isinstance(deed, str):
            # The one deed that is told by a string alone is to refuse.
            self.end = REFUSED
            self.refuser = self.firing[-1]
            return
        verb, counter, form = deed
        parts = list(form.parts().items())
        mixes = self.worded()
        mix = self.scope.blend(form.integer, parts, mixes)
        self.mixes[counter] = self.scope.total([mixes[counter], mix]) if verb == ADD else mix

    def do_inner(self, statement, numbers, inner):
        """Do a statement that takes all of its rows, on tables of a class, by the walk of this call."""
        if inner.end == ENDLESS:
            self.end_never(statement, numbers)
            return
        self.inner.append((statement, numbers))
        self.rank = max(self.rank, 1 + inner.rank)
        if inner.end == REFUSED:
            self.end = REFUSED
            self.refuser = inner.refuser
            return
        after = {name: self.scope.blend(number, parts, self.mixes) for name, number, parts in inner.changes()}
        self.mixes = {**self.mixes, **after}
        self.fates = {kind: inner.fates.get(fate, GONE) for kind, fate in self.fates.items()}

    def parting(self, other):
        """Return what is to be added to each unknown of the scope so that another walk ends unlike this one, or None.

        This tells no more rows than it must.
        """
        if self.end != other.end:
            return self.scope.nothing()
        return self.scope.parting(self.mixes, other.mixes) if self.end == DONE else None

    def end_never(self, statement, numbers):
        """Be endless by an inner call that is so."""
        self.inner.append((statement, numbers))
        self.end = ENDLESS
        self.rank = None


class Call(Walk):
    """The walk of a statement that takes all of its rows through all tables of a class."""

    def __init__(self, book, statement, numbers):
        scope = Scope(numbers, book.cap, book.counters)
        Walk.__init__(self, book, scope, scope.tables_of(book.kinds))
        self.statement = statement
        self.numbers = numbers
        self._changes = None
        self.begin_whole(statement)

    def effect(self):
        """Return the list of all names, each with a number and the words that come to it, each so many times."""
        words = [*self._book.kinds, *self._book.counters]
        found = []
        for name, mix in self.mixes.items():
            parts = [(word, times) for word, times in zip(words, mix[1:]) if times != 0]
            found.append((name, mix[0], parts))
        return found

    def changes(self):
        """Return the part of the effect that tells of the names that do not stay as they are."""
        # Many calls have the same inner call, so that this is told only once.
        if self._changes is None:
            self._changes = [told for told in self.effect() if told[1] != 0 or told[2] != [(told[0], 1)]]
        return self._changes


def end_waiting(walks):
    """Make all walks but the last one endless, each of which waits for the next one."""
    for walk, inner in zip(walks, walks[1:]):
        walk.end_never(inner.statement, inner.numbers)


class Ledger:
    """The calls of a book that were asked for, and those that begin within them."""

    def __init__(self, book):
        self._book = book
        self._calls = {}

    def calls_of(self, statements):
        """Return the calls that begin when one of some statements is done on some table, and those known before.

        They ascend by the texts of the statements, then by the classes.
        """
        for numbers in all_classes(len(self._book.kinds), self._book.cap):
            for statement in statements:
                self.call_of(statement, numbers)
        return [self._calls[key] for key in sorted(self._calls)]

    def known(self, statement, numbers):
        """Return a call, if it is at its end, and None if not."""
        call = self._calls.get((statement.text(), numbers))
        return None if call is None or call.end == "" else call

    def call_of(self, statement, numbers):
        """Return the call of a statement and a class, at its end."""
        call = self.known(statement, numbers)
        return self.finished(self.begun(statement, numbers)) if call is None else call

    def walk_of_list(self, scope, statements):
        """Return the walk of a list of statements, which all take all of their rows, one behind another."""
        walk = Walk(self._book, scope, scope.tables_of(self._book.kinds))
        for statement in statements:
            # What comes behind the first statement that is refused or endless does not count.
            if walk.end == "":
                numbers = walk.class_now()
                walk.do_inner(statement, numbers, self.call_of(statement, numbers))
        if walk.end == "":
            walk.end = DONE
        return walk

    def begun(self, statement, numbers):
        """Return a new call."""
        call = Call(self._book, statement, numbers)
        self._calls[(statement.text(), numbers)] = call
        return call

    def finished(self, walk):
        """Return a walk at its end, and with it all calls that begin within it."""
        # There may be hundreds of them, each within another one: too many for calls within calls of Python.
        under_way = [walk]
        while len(under_way) > 0:
            needed = under_way[-1].go_on(self)
            if needed is None:
                under_way.pop()
                continue
            statement, numbers = needed
            if (statement.text(), numbers) in self._calls:
                # What has begun and is not at its end begins once more within itself.
                end_waiting([*under_way, self._calls[(statement.text(), numbers)]])
            else:
                under_way.append(self.begun(statement, numbers))
        return walk
