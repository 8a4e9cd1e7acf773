import random
import unittest

from statementlots.books import Book, Trigger
from statementlots.errors import LotError, Unknown
from statementlots.forms import Form
from statementlots.same import books_unlike, idle, unlike
from statementlots.statements import Statement
from statementlots.tables import Table

from chances import book_by, statement_by
from ends import end_by_runs, tables_of
from model import TooMuch, calls_of
from samples import BOOKS, adding, bring, falling, filling, full, guarding, logging, ringing, telling, turn, wordy

DONE = turn("open", "done")
PLAIN = Book(["a", "b"], ["m", "n"], [])


def seen_by(name, tests, *deeds, kinds=("a", "b"), counters=("m", "n")):
    """Return a book with one trigger, which sees everything."""
    return Book(kinds, counters, [Trigger(name, kinds, kinds, tests, deeds)])


class LeastTables(unittest.TestCase):
    def check(self, found, size, ends):
        """Check that two ends, by a function of a table, are unlike at the found table, and alike at all smaller ones."""
        one, two, book = ends
        if size is None:
            self.assertIsNone(found)
            return
        self.assertIsInstance(found, Table)
        self.assertEqual(found.size(), size)
        self.assertNotEqual(one(found), two(found))
        for less in range(size):
            for table in tables_of(book, less):
                self.assertEqual(one(table), two(table))

    def lists(self, book, one, two, size):
        ends = [lambda table, some=some: end_by_runs(book, table, some) for some in (one, two)]
        self.check(unlike(book, one, two), size, (*ends, book))
        self.check(unlike(book, two, one), size, (*ends, book))

    def books(self, first, second, statements, size):
        ends = [lambda table, book=book: [end_by_runs(book, table, [statement]) for statement in statements]
                for book in (first, second)]
        self.check(books_unlike(first, second, statements), size, (*ends, first))
        self.check(books_unlike(second, first, statements), size, (*ends, first))


class Unlike(LeastTables):
    def test_no_statements(self):
        for book in BOOKS:
            self.assertIsNone(unlike(book, [], []))
        self.lists(PLAIN, [], [Statement({})], None)
        self.lists(PLAIN, [], [turn("a", "a")], None)
        self.lists(PLAIN, [], [turn("a")], 1)
        self.lists(PLAIN, [], [bring("a")], 0)

    def test_the_same_statements(self):
        for book in BOOKS:
            statement = turn(book.kinds[0], *book.kinds[:3])
            if book != full():
                self.assertIsNone(unlike(book, [statement], [statement]))

    def test_without_triggers(self):
        self.lists(PLAIN, [turn("a", "b")], [turn("a", "b", "b")], 1)
        self.lists(PLAIN, [turn("a", "b"), turn("b", "a")], [turn("b", "a")], None)
        self.lists(PLAIN, [turn("a"), turn("b")], [Statement({"a": [], "b": []})], None)
        self.lists(PLAIN, [turn("a", "b"), turn("b")], [Statement({"a": [], "b": []})], None)
        self.lists(PLAIN, [Statement({"a": ["b"], "b": ["a"]})], [], 1)
        self.lists(PLAIN, [Statement({"a": ["b"], "b": ["a"]})] * 2, [], None)
        self.lists(PLAIN, [bring("a"), bring("a")], [bring("a", 2)], None)
        self.lists(PLAIN, [bring("a"), turn("a", "b")], [turn("a", "b"), bring("a")], 0)

    def test_the_cap_is_where_tables_part(self):
        for number in range(3):
            book = guarding(number)
            self.lists(book, [bring("open")], [bring("done"), turn("done", "open")], 1 if number else None)
            self.lists(book, [bring("open"), turn("open")], [turn("open")], number)
        for number in range(4):
            book = logging(number)
            self.lists(book, [DONE], [turn("open", "done", "log"), turn("log")], 0 if number == 0 else 1)
            self.lists(book, [turn("log"), DONE], [turn("log"), DONE, turn("log")], number)

    def test_more_rows_than_the_least_of_a_class(self):
        # Two rows are doubled to what the other statement brings; at three there is a difference.
        book = Book(["a"], [], [Trigger("t", [], [], [(["a"], 1, 1)], [])])
        self.assertEqual(book.cap, 2)
        self.lists(book, [turn("a", "a", "a")], [turn("a", "a")], 1)
        doubled = seen_by("t", [(["old.a"], 2, None)], ("set", "n", Form({"a": 1}, -2)))
        self.lists(doubled, [turn("a", "a")], [turn("a", "a"), turn("a", "a")], None)
        only = seen_by("t", [(["old.a"], 2, None)], ("add", "n", Form({"old.a": 1}, -3)))
        # The worth is the same at three rows, which the cap is, but not at four.
        self.assertEqual(only.cap, 3)
        self.lists(only, [turn("a", "a")], [], 2)
        three = seen_by("t", [(["old.a"], 3, None)], ("add", "n", Form({"old.a": 1}, -4)))
        self.lists(three, [turn("a", "a")], [], 3)
        four = seen_by("t", [(["a"], 3, 3)], turn("a"))
        self.lists(four, [turn("a", "a")], [], 3)
        at_cap = Book(["a"], ["n"], [Trigger("t", ["a"], [], [(["old.a"], 2, None), (["old.a"], 3, None)],
                                             [("add", "n", Form({"old.a": 1}, -3)), ("add", "n", Form({}))])])
        self.assertEqual(at_cap.cap, 4)
        self.lists(at_cap, [turn("a", "a")], [], 4)

    def test_one_more_than_the_cap(self):
        book = Book(["a"], ["n"], [Trigger("t", ["a"], [], [(["a"], 1, None)], [("add", "n", Form({"a": 1}, -2))]),
                                   Trigger("u", ["a"], [], [(["a"], 1, 1)], [("add", "n", Form({}, 1))])])
        self.assertEqual(book.cap, 2)
        # With one row the triggers add 0 together, with two 0 as well, with three 1.
        self.lists(book, [turn("a", "a")], [], 3)

    def test_a_worth_rather_than_one_more_row(self):
        form = Form({"n": 1, "a": 1}, -2)
        book = Book(["a"], ["m", "n"], [Trigger("t", ["a"], [], [(["a"], 1, None)], [("add", "m", form)]),
                                        Trigger("u", ["a"], [], [(["a"], 1, 1)], [("add", "m", form * -1)])])
        self.assertEqual(book.cap, 2)
        self.lists(book, [turn("a", "a")], [], 2)

    def test_worths_of_counters(self):
        book = seen_by("t", [], ("set", "n", Form({"m": 1})), ("set", "m", Form({"n": 1})))
        self.lists(book, [Statement({}), turn("a", "a")], [], 0)
        self.lists(book, [turn("a", "a")], [turn("a", "a")] * 2, None)
        cleared = seen_by("t", [(["old.a"], 1, None)], ("set", "n", Form({})))
        self.lists(cleared, [turn("a", "a")], [], 1)
        self.assertNotEqual(unlike(cleared, [turn("a", "a")], []).worth("n"), 0)
        self.assertEqual(unlike(seen_by("t", [], ("add", "n", Form({"m": 3}))), [turn("b")], []).size(), 0)

    def test_ends_of_other_kinds(self):
        self.lists(ringing(), [bring("a")], [bring("b")], None)
        self.lists(ringing(), [bring("a")], [turn("a"), turn("b")], 0)
        self.lists(ringing(), [turn("a")], [turn("b")], 1)
        no = Trigger("no", ["a"], [], [(["old.a"], 1, None)], ["refuse"])
        both = Book(["a", "b"], [], [no, Trigger("ring", ["b"], [], [(["old.b"], 2, None)], [turn("b", "b")])])
        # Refused, and endless, are two ends; whichever trigger refuses, it is one.
        self.lists(both, [turn("a"), turn("b", "b")], [turn("b", "b"), turn("a")], 3)
        two = Book(["a", "b"], [], [no, Trigger("nor", ["b"], [], [(["old.b"], 1, None)], ["refuse"])])
        self.lists(two, [turn("a"), turn("b")], [turn("b"), turn("a")], None)
        self.lists(two, [turn("a"), turn("b")], [turn("b")], 1)

    def test_statements_behind_the_first_that_fails_do_not_count(self):
        self.lists(guarding(0), [bring("open"), bring("done")], [bring("open")], None)
        self.lists(guarding(0), [bring("done"), bring("open")], [bring("open")], None)
        self.lists(ringing(), [bring("a"), turn("a")], [bring("a")], None)

    def test_known_books(self):
        self.lists(adding(), [DONE, DONE], [DONE], None)
        self.lists(adding(), [bring("open"), DONE], [DONE, bring("done")], None)
        self.lists(telling(), [DONE], [turn("open", "done", "open"), turn("open")], 1)
        self.lists(telling(), [DONE], [turn("open", "done", "open"), turn("open"), turn("done", "done")], None)
        self.lists(telling(), [Statement({})], [turn("open", "open")], 0)
        self.lists(falling(2), [bring("a"), bring("a")], [bring("a", 2)], 0)
        self.lists(falling(1), [bring("a")], [Statement({}, {"a": 1, "b": 1})], 0)
        self.lists(filling(3), [bring("a"), bring("a")], [bring("a"), Statement({"a": ["a"]}, {"a": 1})], None)

    def test_unknown_kinds(self):
        for one, two, name in (([DONE, bring("x")], [bring("y")], "x"), ([DONE], [DONE, turn("z", "y")], "z"),
                               ([], [bring("total")], "total"), ([bring("b"), bring("a")], [bring("c")], "b")):
            with self.assertRaises(Unknown) as caught:
                unlike(adding(), one, two)
            self.assertEqual(caught.exception.name, name)

    def test_parameters_by_name(self):
        one, two = [DONE], [turn("open")]
        found = unlike(two=two, one=one, book=guarding(1))
        self.assertEqual(found.size(), 1)
        self.assertEqual([len(one), len(two)], [1, 1])
        self.assertTrue(found == unlike(guarding(1), tuple(one), tuple(two)))

    def test_books_by_chance(self):
        chance = random.Random(41)
        sizes = {}
        for _ in range(150):
            book = book_by(chance)
            if (book.cap + 1) ** len(book.kinds) > 27:
                continue
            few = [statement_by(chance, book.kinds) for _ in range(2)]
            one, two = [[chance.choice(few) for _ in range(chance.choice([0, 1, 1, 2]))] for _ in range(2)]
            if chance.random() < 0.5:
                two = [*one, Statement({kind: [kind] for kind in chance.sample(book.kinds, 1)})]
            if any(too_much(book, statement) for statement in [*one, *two]):
                continue
            found = unlike(book, one, two)
            size = None if found is None else found.size()
            self.lists(book, one, two, size)
            if size is None:
                for less in range(1 + len(book.kinds) * book.cap):
                    for table in tables_of(book, less, True):
                        self.assertEqual(end_by_runs(book, table, one), end_by_runs(book, table, two))
            sizes[size] = sizes.get(size, 0) + 1
        self.assertGreater(min(sizes[size] for size in (None, 0, 1)), 2, sizes)


def too_much(book, statement):
    """Tell whether callers do not ask of a statement for all tables."""
    numbers = [()]
    for _ in book.kinds:
        numbers = [(*some, number) for some in numbers for number in range(book.cap + 1)]
    try:
        for some in numbers:
            calls_of(book, dict(zip(book.kinds, some)), statement)
    except TooMuch:
        return True
    return False


class BooksUnlike(LeastTables):
    def test_the_same_books(self):
        for book in BOOKS:
            self.assertIsNone(books_unlike(book, book, []))
        self.books(adding(), adding(), [DONE, bring("open"), Statement({})], None)

    def test_no_statements(self):
        self.books(adding(), telling(), [], None)

    def test_known_books(self):
        self.books(adding(), telling(), [DONE], 0)
        self.books(adding(), telling(), [Statement({})], None)
        self.books(guarding(1), guarding(2), [DONE, Statement({})], None)
        self.books(guarding(1), guarding(2), [DONE, bring("open")], 1)
        self.books(guarding(0), guarding(2), [bring("open")], 0)
        self.books(guarding(0), Book(["done", "open"], [], []), [bring("open")], 0)
        self.books(guarding(2), Book(["done", "open"], [], []), [DONE, bring("open")], 2)
        for number in range(3):
            self.books(logging(number), logging(number + 1), [turn("done"), DONE], 0 if number == 0 else number)
            self.books(logging(number), logging(3), [DONE, bring("done", 9), turn("done")], number)
        self.books(falling(0), falling(1), [bring("d"), bring("c"), bring("b")], 0)
        self.books(falling(0), falling(1), [bring("d"), turn("d")], None)

    def test_other_triggers_with_the_same_ends(self):
        tested = Book(["a"], ["n"], [Trigger("t", ["a"], [], [(["old.a"], 1, None)], [("add", "n", Form({}, 1))]),
                                     Trigger("u", ["a"], [], [(["old.a"], 0, 0)], [("add", "n", Form({}, 1))])])
        plain = Book(["a"], ["n"], [Trigger("t", ["a"], [], [], [("add", "n", Form({}, 1))])])
        self.books(tested, plain, [turn("a"), turn("a", "a"), bring("a")], None)
        self.books(tested, Book(["a"], ["n"], tested.triggers[:1]), [turn("a"), bring("a")], 0)
        self.books(tested, Book(["a"], ["n"], tested.triggers[1:]), [turn("a"), bring("a")], 1)

    def test_other_caps(self):
        two = seen_by("t", [(["old.a"], 2, None)], ("add", "n", Form({"old.a": 1})))
        four = Book(["a", "b"], ["m", "n"], [
            Trigger("t", ["a"], [], [(["old.a"], 2, 2)], [("add", "n", Form({}, 2))]),
            Trigger("u", ["a"], [], [(["old.a"], 3, 3)], [("add", "n", Form({}, 3))]),
            Trigger("v", ["a"], [], [(["old.a"], 1, 3)], [])])
        self.assertEqual([two.cap, four.cap], [3, 4])
        self.books(two, four, [turn("a", "a")], 4)
        more = Book(["a", "b"], ["m", "n"], [
            *four.triggers[:2], Trigger("v", ["a"], [], [(["old.a"], 0, 3)], [("add", "n", Form({"old.a": -1}))]),
            Trigger("w", ["a"], [], [], [("add", "n", Form({"old.a": 1}))])])
        self.books(more, four, [turn("a", "a")], 4)

    def test_the_statement_that_needs_fewer_rows(self):
        form = Form({"b": 1}, -2)
        more = Trigger("t", ["b"], [], [(["b"], 1, None)], [("add", "n", form)])
        less = Trigger("u", ["b"], [], [(["b"], 1, 1)], [("add", "n", form * -1)])
        other = Trigger("v", ["a"], [], [(["b"], 1, None)], [("add", "n", Form({"b": 1}, -1))])
        plain, book = Book(["a", "b"], ["n"], []), Book(["a", "b"], ["n"], [more, less, other])
        self.assertEqual(book.cap, 2)
        # Both are unlike in the class of two rows, but one of them with three rows only.
        self.books(plain, book, [turn("b", "b")], 3)
        self.books(plain, book, [turn("a", "a")], 2)
        self.books(plain, book, [turn("a", "a"), turn("b", "b")], 2)
        self.books(plain, book, [turn("b", "b"), turn("a", "a")], 2)

    def test_which_trigger_refuses_does_not_count(self):
        books = [Book(["a"], [], [Trigger(name, ["a"], [], [(["old.a"], 2, None)], ["refuse"])]) for name in ("p", "q")]
        self.books(*books, [turn("a"), turn("a", "a")], None)
        self.books(books[0], Book(["a"], [], []), [turn("a")], 2)
        rings = Book(["a"], [], [Trigger("p", ["a"], [], [(["old.a"], 2, None)], [turn("a", "a")])])
        self.books(books[0], rings, [turn("a", "a")], 2)

    def test_unknown_names(self):
        plain = Book(["b", "d"], ["c", "e"], [])
        for second, name in ((Book(["b", "d", "a"], ["c", "e"], []), "a"), (Book(["b", "d"], ["c"], []), "e"),
                             (Book(["b", "e"], ["c"], []), "d"), (Book(["x"], ["y"], []), "b"),
                             (Book(["b", "c"], ["d", "e"], []), "c"), (Book(["b", "d"], ["c", "e", "a"], []), "a"),
                             (Book(["b", "d"], ["dd"], []), "c"), (Book(["b", "d", "f"], ["c", "e"], []), "f")):
            for first, other in ((plain, second), (second, plain)):
                with self.assertRaises(Unknown) as caught:
                    books_unlike(first, other, [bring("a"), bring("z")])
                self.assertEqual(caught.exception.name, name)
        with self.assertRaises(Unknown) as caught:
            books_unlike(plain, plain, [bring("b"), Statement({"b": ["z", "y"]}, {"x": 1}), bring("a")])
        self.assertEqual(caught.exception.name, "x")

    def test_parameters_by_name(self):
        found = books_unlike(statements=(bring("open"),), second=guarding(0), first=guarding(1))
        self.assertEqual(found.size(), 0)

    def test_books_by_chance(self):
        chance = random.Random(43)
        sizes = {}
        for _ in range(900):
            first = book_by(chance)
            other = book_by(chance)
            if len(first.triggers) == 0 or len(first.kinds) != len(other.kinds):
                continue
            if chance.random() < 0.5:
                triggers = list(first.triggers)
                one = triggers.pop(chance.randrange(len(triggers)))
                bounds = [(words, least, chance.choice([most, 1, 2, None])) for words, least, most in one.tests]
                triggers.append(Trigger(one.label, one.olds, one.news, bounds, one.deeds))
                second = Book(first.kinds, first.counters, triggers)
            else:
                first, second = [Book(book.kinds, ["x", "y", "z"], book.triggers) for book in (first, other)]
            bound = max(first.cap, second.cap)
            if (bound + 1) ** len(first.kinds) > 27:
                continue
            statements = [statement_by(chance, first.kinds) for _ in range(chance.choice([1, 1, 2]))]
            if any(too_much(book, statement) for book in (first, second) for statement in statements):
                continue
            found = books_unlike(first, second, statements)
            size = None if found is None else found.size()
            if size is None or size > 0:
                self.books(first, second, statements, size)
            if size is None:
                for less in range(1 + len(first.kinds) * bound):
                    for table in tables_of(first, less, True):
                        for statement in statements:
                            self.assertEqual(*[end_by_runs(book, table, [statement]) for book in (first, second)])
            sizes[size] = sizes.get(size, 0) + 1
        self.assertGreater(min(sizes[size] for size in (None, 0, 1, 2)), 3, sizes)


class Idle(unittest.TestCase):
    def test_no_statements(self):
        self.assertEqual(idle(falling(2), []), ["falla", "fallb", "fallc"])
        self.assertEqual(idle(ringing(), []), ["to", "fro"])
        self.assertEqual(idle(PLAIN, [bring("a")]), [])

    def test_what_is_not_set_off(self):
        self.assertEqual(idle(guarding(1), [DONE, bring("done")]), ["guard"])
        self.assertEqual(idle(falling(1), [bring("b"), bring("d")]), ["falla"])
        self.assertEqual(idle(falling(0), [bring("a")]), ["fallb", "fallc"])
        self.assertEqual(idle(adding(), [Statement({})]), ["keep"])

    def test_what_fires_on_some_table(self):
        self.assertEqual(idle(guarding(1), [bring("open")]), [])
        self.assertEqual(idle(logging(3), [DONE]), [])
        self.assertEqual(idle(logging(3), [bring("open", 2)]), ["note"])
        self.assertEqual(idle(logging(3), [bring("open", 2), bring("open", 3)]), [])

    def test_tests_that_never_hold(self):
        for tests, wanted in (([(["a"], 2, 1)], ["t"]), ([(["a"], 2, None), (["a"], 0, 1)], ["t"]),
                              ([(["old.a", "old.b"], 1, None)], ["t"]), ([(["new.a"], 1, 0)], ["t"]),
                              ([(["new.a"], 2, None)], ["t"]), ([(["new.a"], 1, 1)], []),
                              ([(["a"], 3, 3), (["b"], 3, 3)], []), ([(["a"], 1, None), (["b"], 0, 0)], [])):
            self.assertEqual(idle(seen_by("t", tests), [bring("a")]), wanted, tests)

    def test_what_is_set_off_by_triggers_alone(self):
        book = Book(["a", "b"], [], [Trigger("q", [], ["b"], [(["b"], 3, None)], []),
                                     Trigger("r", ["b"], [], [], []), Trigger("p", [], ["a"], [], [bring("b")])])
        self.assertEqual(idle(book, [bring("a")]), ["r"])
        self.assertEqual(idle(book, [turn("b")]), ["q", "p"])

    def test_what_fires_in_what_is_refused_or_endless(self):
        self.assertEqual(idle(ringing(), [bring("a")]), [])
        book = Book(["a"], [], [Trigger("p", [], ["a"], [], []), Trigger("q", [], ["a"], [], ["refuse"]),
                                Trigger("r", [], ["a"], [], [])])
        self.assertEqual(idle(book, [bring("a")]), ["r"])
        book = Book(["a"], [], [Trigger("p", [], ["a"], [], [turn("a", "a")]), Trigger("q", [], ["a"], [], [])])
        self.assertEqual(idle(book, [bring("a")]), ["q"])

    def test_the_order_is_that_of_the_book(self):
        book = Book(["a"], [], [Trigger(name, ["a"], [], [], []) for name in ("q", "z", "b", "c")])
        self.assertEqual(idle(book, [bring("a")]), ["q", "z", "b", "c"])

    def test_unknown_kinds(self):
        with self.assertRaises(Unknown) as caught:
            idle(ringing(), [bring("a"), Statement({"a": ["d"]}, {"c": 1}), bring("b")])
        self.assertEqual(caught.exception.name, "c")
        with self.assertRaises(LotError):
            idle(book=ringing(), statements=[bring("to")])

    def test_what_is_returned_is_new(self):
        idle(ringing(), []).clear()
        self.assertEqual(idle(ringing(), ()), ["to", "fro"])

    def test_books_by_chance(self):
        chance = random.Random(47)
        some = none = 0
        for _ in range(160):
            book = book_by(chance)
            statements = [statement_by(chance, book.kinds) for _ in range(chance.choice([1, 2, 3]))]
            if (book.cap + 1) ** len(book.kinds) > 64 or any(too_much(book, one) for one in statements):
                continue
            numbers = [()]
            for _ in book.kinds:
                numbers = [(*some, number) for some in numbers for number in range(book.cap + 1)]
            fired = {label for statement in statements for rows in numbers
                     for call in calls_of(book, dict(zip(book.kinds, rows)), statement) for label in call.firing}
            wanted = [trigger.label for trigger in book.triggers if trigger.label not in fired]
            self.assertEqual(idle(book, statements), wanted, book.text())
            some, none = some + (wanted != []), none + (wanted == [] and book.triggers != ())
        self.assertGreater(min(some, none), 10)


if __name__ == "__main__":
    unittest.main()
