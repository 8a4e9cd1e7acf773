import random
import unittest

from statementlots.books import Book, Trigger
from statementlots.errors import Endless, LotError, Refused, Unknown
from statementlots.forms import Form
from statementlots.many import done_many
from statementlots.runs import run
from statementlots.statements import Statement
from statementlots.tables import Table

from chances import book_by, rows_by, statement_by, worths_by
from model import TooMuch, end_of
from odd import HUGE
from samples import BOOKS, adding, bring, falling, filling, guarding, logging, ringing, telling, turn

DONE = turn("open", "done")
MANY = 10 ** 30
PLAIN = Book(["a", "b", "c"], ["n"], [])


class Numbers(unittest.TestCase):
    def test_of_the_document(self):
        self.assertEqual(done_many(telling(), [turn("open", "open", "open")], Table({"open": 1}), 10 ** 20, 1000),
                         {"done": 0, "open": 376, "total": 376})

    def test_names_ascend_together(self):
        book = Book(["d", "b"], ["c", "a"], [])
        found = done_many(book, [bring("b")], Table({"d": 5}, {"a": -1}), 3, 10)
        self.assertEqual(list(found.items()), [("a", 9), ("b", 3), ("c", 0), ("d", 5)])

    def test_no_times(self):
        self.assertEqual(done_many(adding(), [DONE], Table({"open": 7}, {"total": -3}), 0, 5),
                         {"done": 0, "open": 2, "total": 2})
        # Nothing is done, so that nothing is refused.
        self.assertEqual(done_many(guarding(0), [bring("open")], Table({"done": 1}), 0, 9), {"done": 1, "open": 0})
        self.assertEqual(done_many(ringing(), [bring("a")], Table({"b": 4}), 0, 3), {"a": 0, "b": 1})

    def test_no_statements(self):
        for times in (0, 1, 2, MANY):
            for book in BOOKS:
                found = done_many(book, [], Table({book.kinds[0]: 12}), times, 7)
                wanted = {name: 0 for name in sorted([*book.kinds, *book.counters])}
                self.assertEqual(found, {**wanted, book.kinds[0]: 5})

    def test_sums(self):
        for times in (1, 2, 3, 10, 10 ** 6, MANY):
            self.assertEqual(done_many(PLAIN, [bring("a", 2), bring("b")], Table({"c": 5}, {"n": -1}), times, 10 ** 9 + 7),
                             {"a": 2 * times % (10 ** 9 + 7), "b": times % (10 ** 9 + 7), "c": 5, "n": 10 ** 9 + 6})

    def test_powers(self):
        for times in (0, 1, 2, 3, 64, 65, 10 ** 15 + 1, MANY - 1, MANY):
            for modulus in (2, 3, 97, 10 ** 9 + 7, 2 ** 61 - 1, HUGE // 10 ** 5900 + 1):
                found = done_many(PLAIN, [turn("a", "a", "a", "a")], Table({"a": 5}), times, modulus)
                self.assertEqual(found, {"a": 5 * pow(3, times, modulus) % modulus, "b": 0, "c": 0, "n": 0})

    def test_modulus_1(self):
        self.assertEqual(done_many(PLAIN, [bring("a")], Table({"a": 5}, {"n": -7}), MANY, 1),
                         {"a": 0, "b": 0, "c": 0, "n": 0})
        self.assertEqual(done_many(PLAIN, [bring("a")], Table({"a": 5}, {"n": -7}), 0, 1), {"a": 0, "b": 0, "c": 0, "n": 0})

    def test_great_tables(self):
        found = done_many(PLAIN, [turn("a", "b")], Table({"a": HUGE, "b": 3}, {"n": -HUGE}), MANY, 1009)
        self.assertEqual(found, {"a": 0, "b": (HUGE + 3) % 1009, "c": 0, "n": -HUGE % 1009})

    def test_what_goes_round(self):
        ring = Statement({"a": ["b"], "b": ["c"], "c": ["a"]})
        for times in (0, 1, 2, 3, 4, 5, 300, 301, 302, MANY, MANY + 1, MANY + 2):
            wanted = [{"a": 7, "b": 0, "c": 1}, {"a": 1, "b": 7, "c": 0}, {"a": 0, "b": 1, "c": 7}][times % 3]
            self.assertEqual(done_many(PLAIN, [ring], Table({"a": 7, "c": 1}), times, 100), {**wanted, "n": 0})
        counting = Book(["a", "b"], ["n"], [Trigger("t", ["a"], [], [(["old.a"], 1, None)], [("add", "n", Form({"n": 1}))]),
                                            Trigger("u", ["b"], [], [(["old.b"], 1, None)], [("add", "n", Form({}, 1))])])
        swap = Statement({"a": ["b"], "b": ["a"]})
        for times in (0, 1, 2, 3, 8, 9, 10 ** 20, 10 ** 20 + 1):
            # Two rounds together double the worth and add 1.
            half = times // 2
            worth = 5 * pow(2, half, 10007) + pow(2, half, 10007) - 1
            worth = 2 * worth if times % 2 else worth
            found = done_many(counting, [swap], Table({"a": 1}, {"n": 5}), times, 10007)
            self.assertEqual(found["n"], worth % 10007)

    def test_fibonacci(self):
        deeds = [("add", "m", Form({"n": 1})), ("set", "n", Form({"m": 1, "n": -1}))]
        book = Book(["a"], ["m", "n"], [Trigger("t", ["a"], [], [], deeds)])
        found = done_many(book, [turn("a", "a")], Table({}, {"m": 1}), 300, 10 ** 9)
        one, other = 1, 0
        for _ in range(300):
            one, other = one + other, one
        self.assertEqual(found, {"a": 0, "m": one % 10 ** 9, "n": other % 10 ** 9})

    def test_statements_within_statements(self):
        found = done_many(falling(4), [bring("a"), bring("c")], Table({}), MANY, 10 ** 40)
        self.assertEqual(found, {"a": MANY, "b": 4 * MANY, "c": 17 * MANY, "d": 68 * MANY})
        self.assertEqual(done_many(filling(3), [bring("a")], Table({}), 10 ** 18, 10 ** 30),
                         {"a": 2 + 10 ** 18, "n": 6})
        self.assertEqual(done_many(logging(3), [bring("open"), DONE], Table({"open": 1}), MANY, 10 ** 40),
                         {"done": MANY + 1, "log": 0, "open": 0})
        self.assertEqual(done_many(logging(2), [bring("open"), DONE], Table({"open": 1}), MANY, 10 ** 40),
                         {"done": MANY + 1, "log": 1, "open": 0})


class Ends(unittest.TestCase):
    def ends(self, book, statements, table, times):
        try:
            done_many(book, statements, table, times, 10)
        except Refused as error:
            return error.name
        except Endless:
            return "endless"
        return None

    def test_at_once(self):
        for times in (1, 2, MANY):
            self.assertEqual(self.ends(guarding(0), [bring("open")], Table({}), times), "guard")
            self.assertEqual(self.ends(ringing(), [turn("a"), bring("a")], Table({}), times), "endless")

    def test_late(self):
        for number in range(3):
            for times in range(5):
                self.assertEqual(self.ends(guarding(number), [bring("open")], Table({}), times),
                                 "guard" if times > number else None)
            self.assertEqual(self.ends(guarding(number), [bring("open")], Table({}), MANY), "guard")
            self.assertEqual(self.ends(guarding(number), [bring("open"), turn("open")], Table({}), MANY),
                             None if number else "guard")
        no = Trigger("no", ["b"], [], [(["a"], 3, 3), (["b"], 2, 2)], ["refuse"])
        book = Book(["a", "b"], [], [no])
        # The rows of a come to three again and again, but only once there are two rows of b.
        statements = [bring("a"), Statement({"b": ["b"]})]
        for rows, times, end in (({"b": 2}, 2, None), ({"b": 2}, 3, "no"), ({"b": 2}, MANY, "no"), ({"b": 1}, MANY, None),
                                 ({"b": 3}, MANY, None), ({"a": 3, "b": 2}, MANY, None), ({"a": 2, "b": 2}, 1, "no")):
            self.assertEqual(self.ends(book, statements, Table(rows), times), end)

    def test_the_first_one_counts(self):
        no = Trigger("no", ["b"], [], [(["a"], 2, None)], ["refuse"])
        ring = Trigger("ring", ["c"], [], [(["a"], 2, None)], [turn("c", "c")])
        book = Book(["a", "b", "c"], [], [no, ring])
        self.assertEqual(self.ends(book, [bring("a"), turn("b"), turn("c")], Table({}), MANY), "no")
        self.assertEqual(self.ends(book, [bring("a"), turn("c"), turn("b")], Table({}), MANY), "endless")
        self.assertEqual(self.ends(book, [turn("c"), bring("a"), turn("b")], Table({"a": 1}), MANY), "no")
        self.assertEqual(self.ends(book, [turn("c"), turn("b"), bring("a")], Table({"a": 1}), MANY), "endless")
        self.assertEqual(self.ends(book, [turn("c"), turn("b"), bring("a")], Table({"a": 1}), 1), None)

    def test_unknown_names(self):
        for statements, table, name in (([bring("open"), bring("x")], Table({"w": 1}), "x"),
                                        ([bring("open")], Table({"w": 1}, {"a": 1}), "w"),
                                        ([Statement({"open": ["y"]}, {"x": 1}), bring("a")], Table({}), "x"),
                                        ([], Table({}, {"z": 1, "y": 2}), "y")):
            for times in (0, 1, MANY):
                with self.assertRaises(Unknown) as caught:
                    done_many(guarding(0), statements, table, times, 10)
                self.assertEqual(caught.exception.name, name)

    def test_parameters_by_name(self):
        statements, table = [bring("a")], Table({})
        found = done_many(modulus=10, times=3, table=table, statements=statements, book=PLAIN)
        self.assertEqual(found, {"a": 3, "b": 0, "c": 0, "n": 0})
        found.clear()
        self.assertEqual(done_many(PLAIN, tuple(statements), table, 3, 10), {"a": 3, "b": 0, "c": 0, "n": 0})
        with self.assertRaises(LotError):
            done_many(modulus=10, times=3, table=table, statements=[bring("x")], book=PLAIN)


class ByRuns(unittest.TestCase):
    def one_by_one(self, book, statements, table, times):
        """Return the ends of all numbers of times up to some: tables, or what is raised, which is the last one."""
        ends = [table]
        try:
            for _ in range(times):
                for statement in statements:
                    end_of(book, {kind: min(table.rows(kind), book.cap) for kind in book.kinds}, {}, statement)
                    table = run(book, table, statement).table
                ends.append(table)
        except Refused as error:
            ends.append(("refused", error.name))
        except Endless:
            ends.append(("endless",))
        return ends

    def end(self, *told):
        try:
            return done_many(*told)
        except Refused as error:
            return ("refused", error.name)
        except Endless:
            return ("endless",)

    def test_books_by_chance(self):
        chance = random.Random(89)
        late = 0
        for _ in range(250):
            book = book_by(chance)
            statements = [statement_by(chance, book.kinds) for _ in range(chance.choice([1, 1, 2, 3]))]
            table = Table(rows_by(chance, book), worths_by(chance, book))
            try:
                ends = self.one_by_one(book, statements, table, 12)
            except TooMuch:
                continue
            modulus = chance.choice([1, 2, 10, 97, 10 ** 9 + 7, 10 ** 40])
            for times in range(13):
                end = ends[min(times, len(ends) - 1)]
                if isinstance(end, Table):
                    wanted = {name: (end.rows(name) + end.worth(name)) % modulus
                              for name in sorted([*book.kinds, *book.counters])}
                else:
                    wanted = end
                found = self.end(book, statements, table, times, modulus)
                self.assertEqual(found, wanted, book.text())
            late += 2 < len(ends) < 13
        self.assertGreater(late, 2)

    def test_times_are_added(self):
        chance = random.Random(97)
        checked = 0
        for _ in range(150):
            book = book_by(chance)
            statements = [statement_by(chance, book.kinds) for _ in range(chance.choice([1, 2]))]
            table = Table(rows_by(chance, book), worths_by(chance, book))
            try:
                ends = self.one_by_one(book, statements, table, 4)
            except TooMuch:
                continue
            # What has been done some times may go on as if it were new.
            times = chance.randint(0, MANY)
            found = [self.end(book, statements, ends[done], times - done, 10 ** 12 + 39)
                     for done in range(5) if done < len(ends) and isinstance(ends[done], Table) and done <= times]
            self.assertTrue(all(one == found[0] for one in found))
            checked += len(found) > 4
        self.assertGreater(checked, 30)


if __name__ == "__main__":
    unittest.main()
