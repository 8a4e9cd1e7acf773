import itertools
import math
import random
import unittest
from fractions import Fraction

from statementlots.books import Book, Trigger
from statementlots.errors import Endless, LotError, Refused, Unknown
from statementlots.forms import Form
from statementlots.runs import run
from statementlots.statements import Statement
from statementlots.sums import breaking, is_kept, kept, shown
from statementlots.tables import Table

from chances import book_by, rows_by, statement_by, worths_by
from model import TooMuch, calls_of
from samples import BOOKS, adding, bring, falling, filling, guarding, logging, ringing, telling, turn

DONE = turn("open", "done")
THREE = [DONE, bring("open"), Statement({"done": []})]
PLAIN = Book(["a", "b", "c"], ["n"], [])


def texts(forms):
    return [form.text() for form in forms]


def worths_of(book, table):
    return {**{kind: table.rows(kind) for kind in book.kinds}, **{name: table.worth(name) for name in book.counters}}


def at(book, statements, table, indexes):
    """Return the table to which statements lead by `run` alone, None if one is refused or endless."""
    try:
        for index in indexes:
            table = run(book, table, statements[index]).table
    except (Refused, Endless):
        return None
    return table


def rank(rows):
    """Return the number of rows that are linearly independent."""
    rows = [[Fraction(number) for number in row] for row in rows]
    found = 0
    for place in range(len(rows[0]) if rows else 0):
        for number in range(found, len(rows)):
            if rows[number][place]:
                rows[found], rows[number] = rows[number], rows[found]
                for other in rows[found + 1:]:
                    times = other[place] / rows[found][place]
                    other[:] = [one - times * two for one, two in zip(other, rows[found])]
                found += 1
                break
    return found


def rank_of_moves(book, tables):
    """Return how many of the ways from the first one of some tables to the others are linearly independent."""
    names = sorted([*book.kinds, *book.counters])
    rows = [[worths_of(book, table)[name] for name in names] for table in tables]
    return rank([[one - other for one, other in zip(row, rows[0])] for row in rows])


class Kept(unittest.TestCase):
    def test_of_the_document(self):
        self.assertEqual(texts(kept(adding(), THREE, Table({}))), ["1 done + 1 open + -1 total"])

    def test_no_statements(self):
        self.assertEqual(texts(kept(adding(), [], Table({"open": 5}))), ["1 done", "1 open", "1 total"])
        for book in BOOKS:
            wanted = ["1 " + name for name in sorted([*book.kinds, *book.counters])]
            self.assertEqual(texts(kept(book, [], Table({}))), wanted)
            self.assertEqual(texts(kept(book, [Statement({})], Table({book.kinds[0]: 3}))), wanted)

    def test_statements_that_are_refused_or_endless_bring_no_table(self):
        self.assertEqual(texts(kept(ringing(), [bring("a"), bring("b")], Table({}))), ["1 a", "1 b"])
        self.assertEqual(texts(kept(guarding(0), [bring("open")], Table({}))), ["1 done", "1 open"])
        self.assertEqual(texts(kept(guarding(1), [bring("open"), turn("open", "done")], Table({}))), [])
        self.assertEqual(texts(kept(guarding(1), [bring("open")], Table({"done": 4}))), ["1 done"])
        self.assertEqual(texts(kept(guarding(1), [bring("open")], Table({"done": 4, "open": 1}))), ["1 done", "1 open"])

    def test_without_triggers(self):
        self.assertEqual(texts(kept(PLAIN, [turn("a", "b")], Table({"a": 1}))), ["1 a + 1 b", "1 c", "1 n"])
        self.assertEqual(texts(kept(PLAIN, [turn("a", "b")], Table({"b": 1}))), ["1 a", "1 b", "1 c", "1 n"])
        self.assertEqual(texts(kept(PLAIN, [turn("a", "b", "b")], Table({"a": 1}))), ["2 a + 1 b", "1 c", "1 n"])
        self.assertEqual(texts(kept(PLAIN, [turn("a", "b", "c"), turn("c")], Table({"a": 1}))), ["1 a + 1 b", "1 n"])
        self.assertEqual(texts(kept(PLAIN, [Statement({}, {"a": 2, "b": 3})], Table({}))), ["3 a + -2 b", "1 c", "1 n"])
        self.assertEqual(texts(kept(PLAIN, [Statement({}, {"b": 6, "c": 4})], Table({"a": 9}))),
                         ["1 a", "2 b + -3 c", "1 n"])
        # The sum is kept by the statements, and what lacks in b is told by c alone.
        self.assertEqual(texts(kept(PLAIN, [Statement({}, {"a": 2, "b": 3, "c": 1})], Table({}))),
                         ["1 a + -2 c", "1 b + -3 c", "1 n"])

    def test_the_first_table_decides(self):
        swap = Statement({"a": ["b"], "b": ["a"]})
        self.assertEqual(texts(kept(PLAIN, [swap], Table({"a": 2, "b": 2}))), ["1 a", "1 b", "1 c", "1 n"])
        self.assertEqual(texts(kept(PLAIN, [swap], Table({"a": 2, "b": 3}))), ["1 a + 1 b", "1 c", "1 n"])

    def test_counters_that_are_set(self):
        self.assertEqual(texts(kept(telling(), THREE, Table({}))), [])
        self.assertEqual(texts(kept(telling(), [DONE, bring("open")], Table({}))), ["1 done + 1 open + -1 total"])
        self.assertEqual(texts(kept(telling(), [DONE, bring("open")], Table({}, {"total": 1}))), [])
        deeds = [("set", "n", Form({"m": 2})), ("add", "l", Form({"n": 1, "m": -2}))]
        book = Book(["a"], ["l", "m", "n"], [Trigger("t", [], ["a"], [], deeds)])
        self.assertEqual(texts(kept(book, [bring("a")], Table({}, {"l": 3, "m": 4}))), ["1 l", "1 m"])
        self.assertEqual(texts(kept(book, [bring("a")], Table({}, {"n": 8, "m": 4}))), ["1 l", "1 m", "1 n"])

    def test_counters_that_grow_as_powers(self):
        deeds = [("add", "m", Form({"m": 1})), ("set", "n", Form({"m": 3}, -1))]
        book = Book(["a"], ["m", "n"], [Trigger("t", [], ["a"], [], deeds)])
        self.assertEqual(texts(kept(book, [turn("a", "a")], Table({}, {"m": 1, "n": 2}))), ["1 a", "3 m + -1 n"])
        self.assertEqual(texts(kept(book, [bring("a")], Table({}, {"m": 1, "n": 2}))), ["3 m + -1 n"])
        self.assertEqual(texts(kept(book, [bring("a")], Table({}, {"m": 1}))), [])
        doubled = Book(["a", "b"], ["m"], [Trigger("t", [], ["a"], [], [("add", "m", Form({"m": 1}))])])
        both = [turn("a", "a", "a")]
        self.assertEqual(texts(kept(doubled, both, Table({"a": 1}, {"m": 5}))), ["5 a + -1 m", "1 b"])
        self.assertEqual(texts(kept(doubled, both, Table({"a": 10 ** 30}, {"m": 1}))), [f"1 a + -{10 ** 30} m", "1 b"])
        self.assertEqual(texts(kept(doubled, both, Table({"a": 6}, {"m": -4}))), ["2 a + 3 m", "1 b"])

    def test_classes_that_are_left_for_ever(self):
        # Behind two rows nothing is told any more.
        book = Book(["a"], ["n"], [Trigger("t", [], ["a"], [(["a"], 0, 2)], [("set", "n", Form({"a": 1}))])])
        self.assertEqual(texts(kept(book, [bring("a")], Table({}))), [])
        self.assertEqual(texts(kept(book, [bring("a")], Table({"a": 2}, {"n": 2}))), ["1 n"])
        self.assertEqual(texts(kept(book, [turn("a", "a")], Table({"a": 2}, {"n": 2}))), ["1 a", "1 n"])

    def test_known_books(self):
        self.assertEqual(texts(kept(falling(2), [bring("a")], Table({}))), ["8 a + -1 d", "4 b + -1 d", "2 c + -1 d"])
        self.assertEqual(texts(kept(falling(2), [bring("a"), bring("c")], Table({}))), ["2 a + -1 b", "2 c + -1 d"])
        self.assertEqual(texts(kept(logging(0), [DONE], Table({"open": 3}))), ["1 done + 1 open"])
        self.assertEqual(texts(kept(logging(1), [DONE], Table({"open": 3}))), ["1 done + 1 open", "3 log + 1 open"])
        self.assertEqual(texts(kept(filling(2), [bring("a")], Table({}))), [])
        self.assertEqual(texts(kept(filling(2), [bring("a")], Table({"a": 2}))), ["1 n"])

    def test_unknown_names(self):
        for statements, table, name in (([DONE, bring("x")], Table({"w": 1}), "x"), ([DONE], Table({"w": 1}), "w"),
                                        ([Statement({"open": ["y"]}, {"x": 1}), bring("a")], Table({}), "x"),
                                        ([], Table({"total": 1}), "total"), ([], Table({}, {"z": 1, "y": 2}), "y")):
            for asked in (kept, shown, lambda *told: is_kept(*told, Form({"v": 1})),
                          lambda *told: breaking(*told, Form({"v": 1}))):
                with self.assertRaises(Unknown) as caught:
                    asked(adding(), statements, table)
                self.assertEqual(caught.exception.name, name)

    def test_parameters_by_name(self):
        forms = kept(first=Table({}), statements=tuple(THREE), book=adding())
        self.assertIsInstance(forms, list)
        forms.clear()
        self.assertEqual(len(kept(adding(), THREE, Table({}))), 1)


class Breaking(unittest.TestCase):
    def check(self, book, statements, first, form, wanted):
        self.assertEqual(breaking(book, statements, first, form), wanted)
        self.assertIs(is_kept(book, statements, first, form), wanted is None)

    def test_of_the_document(self):
        always = kept(adding(), THREE, Table({}))[0]
        self.check(telling(), THREE, Table({}), always, [1, 0, 2])
        self.check(adding(), THREE, Table({}), always, None)

    def test_no_statements(self):
        self.check(adding(), [], Table({"open": 5}), Form({"open": 7, "total": 1}, 3), None)

    def test_the_number_does_not_count(self):
        for number in (0, 5, -1, 10 ** 30):
            self.check(adding(), THREE, Table({"done": 2}), Form({"done": 1, "open": 1, "total": -1}, number), None)
            self.check(adding(), THREE, Table({}), Form({"open": 1}, number), [1])
            self.check(adding(), THREE, Table({}), Form({}, number), None)

    def test_multiples_and_sums_of_kept_forms(self):
        forms = kept(falling(2), [bring("a"), bring("c")], Table({"b": 4}))
        self.assertEqual(len(forms), 2)
        self.check(falling(2), [bring("a"), bring("c")], Table({"b": 4}), forms[0] * 3 - forms[1] * 5 + Form({}, 9), None)
        self.check(falling(2), [bring("a"), bring("c")], Table({"b": 4}), forms[0] + Form({"a": 1}), [0])

    def test_shortest_lists(self):
        book = Book(["a"], ["n"], [Trigger("t", [], ["a"], [(["a"], 3, None)], [("add", "n", Form({}, 1))])])
        self.check(book, [bring("a")], Table({}), Form({"n": 1}), [0, 0, 0])
        self.check(book, [bring("a"), bring("a", 2)], Table({"a": 1}), Form({"n": 1}), [1])
        self.check(book, [turn("a"), bring("a")], Table({"a": 1}), Form({"n": 1}), [1, 1])
        self.check(book, [turn("a")], Table({"a": 1}), Form({"n": 1}), None)
        self.check(guarding(2), [DONE, bring("open")], Table({"open": 2}), Form({"done": 1, "open": 1}), [0, 1])
        self.check(guarding(2), [bring("open")], Table({"open": 2}), Form({"done": 1, "open": 1}), None)

    def test_what_is_refused_or_endless_breaks_nothing(self):
        self.check(ringing(), [bring("a"), bring("b")], Table({}), Form({"a": 1, "b": 1}), None)
        self.check(ringing(), [bring("a"), turn("b")], Table({"b": 1}), Form({"a": 1, "b": 1}), [1])

    def test_unknown_words(self):
        for parts, name in (({"old.open": 1}, "old.open"), ({"new.done": 1, "old.a": 1}, "new.done"), ({"x": 1, "w": 1}, "w"),
                            ({"keep": 2}, "keep"), ({"total": 1, "z": 1, "done": 3}, "z")):
            for asked in (is_kept, breaking):
                with self.assertRaises(Unknown) as caught:
                    asked(adding(), THREE, Table({}), Form(parts))
                self.assertEqual(caught.exception.name, name)
        with self.assertRaises(LotError):
            is_kept(form=Form({"z": 1}), first=Table({}), statements=[], book=adding())
        with self.assertRaises(LotError):
            breaking(form=Form({"z": 1}), first=Table({}), statements=[], book=adding())

    def test_what_is_returned_is_new(self):
        breaking(telling(), THREE, Table({}), Form({"open": 1})).clear()
        self.assertEqual(breaking(telling(), THREE, Table({}), Form({"open": 1})), [1])


class Shown(unittest.TestCase):
    def test_no_statements(self):
        for book in BOOKS:
            self.assertEqual(shown(book, [], Table({})), [()])
        self.assertEqual(shown(ringing(), [bring("a")], Table({})), [()])

    def test_kinds_of_values(self):
        found = shown(book=adding(), statements=THREE, first=Table({}))
        self.assertIsInstance(found, list)
        self.assertTrue(all(isinstance(indexes, tuple) for indexes in found))
        found.clear()
        self.assertEqual(shown(adding(), THREE, Table({}))[0], ())


class ByRuns(unittest.TestCase):
    def tables(self, book, statements, first, depth):
        """Return the dict from the lists of at most so many indexes to the tables to which they lead."""
        found = {(): first}
        for many in range(1, depth + 1):
            for indexes in itertools.product(range(len(statements)), repeat=many):
                if indexes[:-1] in found:
                    table = at(book, statements, found[indexes[:-1]], indexes[-1:])
                    if table is not None:
                        found[indexes] = table
        return found

    def check(self, book, statements, first, chance):
        names = sorted([*book.kinds, *book.counters])
        forms = kept(book, statements, first)
        ways = shown(book, statements, first)
        self.check_basis(names, forms)
        # Each way leads somewhere, and the tables where they lead show what is kept.
        ends = [at(book, statements, first, indexes) for indexes in ways]
        self.assertNotIn(None, ends)
        self.assertEqual(ways[0], ())
        self.assertEqual(len(set(ways)), len(ways))
        self.assertLessEqual(len(ways), (book.cap + 1) ** len(book.kinds) * (1 + len(names)))
        self.assertEqual(rank_of_moves(book, ends) + len(forms), len(names))
        tables = self.tables(book, statements, first, 4)
        for form in forms:
            worth = form.of(worths_of(book, first))
            for table in [*ends, *tables.values()]:
                self.assertEqual(form.of(worths_of(book, table)), worth)
        self.check_breaking(book, statements, first, tables, chance)
        return len(forms), rank_of_moves(book, list(tables.values())) + len(forms) == len(names)

    def check_basis(self, names, forms):
        firsts = []
        for form in forms:
            self.assertEqual(form.integer, 0)
            numbers = list(form.parts().values())
            self.assertGreater(numbers[0], 0)
            self.assertEqual(math.gcd(*numbers), 1)
            firsts.append(list(form.parts())[0])
        self.assertEqual(firsts, sorted(set(firsts)))
        for form, first in zip(forms, firsts):
            self.assertFalse(any(first in other.parts() for other in forms if other != form))
            self.assertLessEqual(set(form.parts()), set(names))

    def check_breaking(self, book, statements, first, tables, chance):
        names = sorted([*book.kinds, *book.counters])
        form = Form({name: chance.randint(-2, 2) for name in chance.sample(names, min(2, len(names)))}, 1)
        worth = form.of(worths_of(book, first))
        found = breaking(book, statements, first, form)
        breaks = [indexes for indexes, table in tables.items() if form.of(worths_of(book, table)) != worth]
        self.assertIs(is_kept(book, statements, first, form), found is None)
        if found is None:
            self.assertEqual(breaks, [])
        else:
            self.assertNotEqual(form.of(worths_of(book, at(book, statements, first, found))), worth)
            self.assertEqual(min([len(indexes) for indexes in breaks], default=len(found)), len(found))

    def test_books_by_chance(self):
        chance = random.Random(83)
        sizes, enough = {}, 0
        for _ in range(220):
            book = book_by(chance)
            statements = [statement_by(chance, book.kinds) for _ in range(chance.choice([1, 2, 3]))]
            if (book.cap + 1) ** len(book.kinds) > 27 or any(too_much(book, statement) for statement in statements):
                continue
            first = Table(rows_by(chance, book), worths_by(chance, book))
            size, all_told = self.check(book, statements, first, chance)
            sizes[size] = sizes.get(size, 0) + 1
            enough += all_told
        self.assertGreater(min(sizes[size] for size in range(4)), 5, sizes)
        # For most books, lists of four statements lead to tables enough to know that no more is kept.
        self.assertGreater(enough * 10, sum(sizes.values()) * 9)


def too_much(book, statement):
    """Tell whether callers do not ask of a statement for all tables."""
    try:
        for some in itertools.product(range(book.cap + 1), repeat=len(book.kinds)):
            calls_of(book, dict(zip(book.kinds, some)), statement)
    except TooMuch:
        return True
    return False


if __name__ == "__main__":
    unittest.main()
