import random
import unittest

from statementlots.bases import Base
from statementlots.books import Book
from statementlots.errors import BadPicks, Endless, LotError, NoDeed, Refused, Unknown
from statementlots.runs import run
from statementlots.statements import Statement
from statementlots.tables import Table

from chances import book_by, rows_by, statement_by, worths_by
from model import TooMuch, end_of
from samples import adding, bring, falling, guarding, logging, ringing, turn

DONE = turn("open", "done")


class Deeds(unittest.TestCase):
    def test_a_new_base(self):
        book, table = adding(), Table({"open": 2}, {"total": 5})
        base = Base(book, table)
        self.assertTrue(base.book == book)
        self.assertTrue(base.now() == table)
        self.assertEqual(base.fired(), {"keep": 0})
        base = Base(table=Table({}), book=Book(["a"], [], []))
        self.assertEqual(base.fired(), {})

    def test_the_book_is_a_property(self):
        with self.assertRaises(AttributeError):
            Base(adding(), Table({})).book = ringing()

    def test_deeds(self):
        base = Base(logging(1), Table({"open": 2}))
        self.assertTrue(base.do(DONE, {"open": 1}) == Table({"open": 1, "done": 1, "log": 1}))
        self.assertTrue(base.now() == Table({"open": 1, "done": 1, "log": 1}))
        self.assertTrue(base.do(DONE) == Table({"done": 2, "log": 2}))
        self.assertTrue(base.do(picks={}, statement=turn("done", "open")) == Table({"open": 2, "log": 3}))
        self.assertTrue(base.do(DONE, None) == Table({"done": 2, "log": 4}))
        self.assertEqual(base.fired(), {"note": 4})

    def test_lists_of_deeds(self):
        base = Base(logging(1), Table({"open": 2}))
        self.assertTrue(base.do_all([DONE, turn("done", "open", "open")]) == Table({"open": 4, "log": 2}))
        self.assertTrue(base.do_all(statements=(DONE,)) == Table({"done": 4, "log": 3}))
        self.assertEqual(base.fired(), {"note": 3})
        self.assertTrue(base.undo() == Table({"open": 4, "log": 2}))
        self.assertEqual(base.fired(), {"note": 2})
        self.assertTrue(base.undo() == Table({"open": 2}))
        self.assertEqual(base.fired(), {"note": 0})
        self.assertTrue(base.again() == Table({"open": 4, "log": 2}))

    def test_no_statements_are_a_deed(self):
        base = Base(logging(1), Table({"open": 2}))
        base.do(DONE)
        base.undo()
        self.assertTrue(base.do_all([]) == Table({"open": 2}))
        # What was undone ahead of it can not be done again, and it is undone itself.
        with self.assertRaises(NoDeed):
            base.again()
        self.assertTrue(base.undo() == Table({"open": 2}))
        with self.assertRaises(NoDeed):
            base.undo()
        self.assertTrue(base.again() == Table({"open": 2}))

    def test_what_fires_in_a_list_within_statements(self):
        base = Base(falling(2), Table({}))
        base.do_all([bring("a"), bring("b"), bring("a")])
        self.assertEqual(list(base.fired().items()), [("falla", 2), ("fallb", 5), ("fallc", 10)])
        base.fired().clear()
        self.assertEqual(base.fired(), {"falla": 2, "fallb": 5, "fallc": 10})

    def test_names_of_triggers_ascend(self):
        base = Base(ringing(), Table({}))
        self.assertEqual(list(base.fired()), ["fro", "to"])
        base.do(turn("a"))
        self.assertEqual(list(base.fired()), ["fro", "to"])


class Undone(unittest.TestCase):
    def base(self):
        base = Base(adding(), Table({"open": 1}, {"total": 1}))
        for number in (1, 2, 3):
            base.do(bring("open", number))
        return base

    def totals(self, base, words):
        return [{"undo": base.undo, "again": base.again}[word]().worth("total") for word in words.split()]

    def test_undo_and_again(self):
        base = self.base()
        self.assertEqual(self.totals(base, "undo undo again again undo undo undo again"), [4, 2, 4, 7, 4, 2, 1, 2])
        self.assertEqual(base.fired(), {"keep": 1})
        self.assertEqual(self.totals(base, "again again"), [4, 7])
        self.assertEqual(base.fired(), {"keep": 3})

    def test_nothing_is_left(self):
        base = self.base()
        with self.assertRaises(NoDeed):
            base.again()
        self.totals(base, "undo undo undo")
        for _ in range(2):
            with self.assertRaises(NoDeed):
                base.undo()
        self.assertTrue(base.now() == Table({"open": 1}, {"total": 1}))
        self.assertEqual(self.totals(base, "again again again"), [2, 4, 7])
        for _ in range(2):
            with self.assertRaises(NoDeed):
                base.again()
        self.assertEqual(base.now().worth("total"), 7)
        self.assertEqual(self.totals(base, "undo"), [4])
        with self.assertRaises(LotError):
            Base(adding(), Table({})).undo()

    def test_a_deed_behind_an_undo(self):
        base = self.base()
        self.totals(base, "undo undo")
        base.do(bring("done", 5))
        self.assertEqual(base.fired(), {"keep": 2})
        with self.assertRaises(NoDeed):
            base.again()
        self.assertEqual(base.now().worth("total"), 7)
        self.assertEqual(self.totals(base, "undo undo again again"), [2, 1, 2, 7])
        self.assertEqual(base.now().rows("done"), 5)

    def test_a_deed_that_cannot_be_done(self):
        base = Base(guarding(1), Table({"done": 2}))
        base.do(bring("open"))
        base.do(turn("open"))
        base.undo()
        refused = [(lambda: base.do(bring("open")), Refused), (lambda: base.do(bring("x")), Unknown),
                   (lambda: base.do(turn("open"), {"open": 2}), BadPicks), (lambda: base.do_all([bring("y")]), Unknown),
                   (lambda: base.do_all([turn("open"), bring("open"), bring("open")]), Refused)]
        for deed, error in refused:
            with self.assertRaises(error):
                deed()
            self.assertTrue(base.now() == Table({"done": 2, "open": 1}))
            self.assertEqual(base.fired(), {"guard": 0})
        # It does not end what can be done again.
        self.assertTrue(base.again() == Table({"done": 2}))
        self.assertTrue(base.undo() == Table({"done": 2, "open": 1}))
        self.assertTrue(base.undo() == Table({"done": 2}))

    def test_what_is_endless(self):
        base = Base(ringing(), Table({"a": 1}))
        for _ in range(2):
            with self.assertRaises(Endless):
                base.do(turn("a", "a"))
            with self.assertRaises(Endless):
                base.do_all([turn("a"), bring("b")])
        self.assertTrue(base.now() == Table({"a": 1}))
        self.assertEqual(base.fired(), {"fro": 0, "to": 0})

    def test_the_first_statement_that_cannot_be_done_is_told(self):
        base = Base(guarding(0), Table({}))
        for statements, told in (([bring("open"), bring("x")], "guard"), ([bring("x"), bring("open")], "x"),
                                 ([bring("done"), bring("z"), bring("y")], "z")):
            with self.assertRaises(LotError) as caught:
                base.do_all(statements)
            self.assertEqual(caught.exception.name, told)
        self.assertTrue(base.now() == Table({}))

    def test_two_bases_do_not_meet(self):
        one, other = self.base(), self.base()
        one.undo()
        self.assertEqual([one.now().worth("total"), other.now().worth("total")], [4, 7])


class WrongTables(unittest.TestCase):
    def test_unknown_names(self):
        for table, name in ((Table({"z": 1, "x": 1}, {"a": 1}), "x"), (Table({}, {"z": 1, "y": -1}), "y"),
                            (Table({"total": 1}), "total"), (Table({"open": 1}, {"open": 1}), "open")):
            with self.assertRaises(Unknown) as caught:
                Base(adding(), table)
            self.assertEqual(caught.exception.name, name)

    def test_what_is_passed_may_be_changed_later(self):
        statements, picks = [DONE], {"open": 1}
        base = Base(adding(), Table({"open": 2}))
        base.do(DONE, picks)
        base.do_all(statements)
        self.assertEqual([len(statements), picks], [1, {"open": 1}])
        statements.clear()
        picks["open"] = 7
        base.undo()
        self.assertTrue(base.again() == Table({"done": 2}))


class ByRuns(unittest.TestCase):
    """A list of all states that there have been, told by `run` alone."""

    def step(self, chance, base, states, at):
        book = base.book
        what = chance.random()
        if what < 0.3:
            if at == 0:
                self.assertRaises(NoDeed, base.undo)
                return states, at
            base.undo()
            return states, at - 1
        if what < 0.5:
            if at + 1 == len(states):
                self.assertRaises(NoDeed, base.again)
                return states, at
            base.again()
            return states, at + 1
        statements = [statement_by(chance, book.kinds) for _ in range(chance.choice([0, 1, 2]))]
        table, fired = states[at]
        try:
            for statement in statements:
                end_of(book, {kind: table.rows(kind) for kind in book.kinds}, {}, statement)
                outcome = run(book, table, statement)
                table = outcome.table
                fired = {name: fired[name] + outcome.fired()[name] for name in fired}
        except TooMuch:
            return states, at
        except (Refused, Endless) as error:
            self.assertRaises(error.__class__, base.do_all, statements)
            return states, at
        self.assertTrue(base.do_all(statements) == table)
        return [*states[:at + 1], (table, fired)], at + 1

    def test_books_by_chance(self):
        chance = random.Random(79)
        for _ in range(60):
            book = book_by(chance)
            table = Table(rows_by(chance, book), worths_by(chance, book))
            base = Base(book, table)
            states, at = [(table, {name: 0 for name in sorted(trigger.label for trigger in book.triggers)})], 0
            for _ in range(20):
                states, at = self.step(chance, base, states, at)
                self.assertTrue(base.now() == states[at][0])
                self.assertEqual(list(base.fired().items()), list(states[at][1].items()))


if __name__ == "__main__":
    unittest.main()
