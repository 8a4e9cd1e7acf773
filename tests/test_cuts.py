import itertools
import random
import unittest

from statementlots.books import Book, Trigger
from statementlots.cuts import two_goes, uncuttable
from statementlots.errors import BadPicks, Endless, LotError, Refused, Unknown
from statementlots.forms import Form
from statementlots.runs import run
from statementlots.statements import Statement
from statementlots.tables import Table

from chances import book_by, rows_by, statement_by, worths_by
from ends import shown, tables_of
from model import TooMuch, end_of, end_of_goes
from odd import HUGE, ODD_INTEGERS, ODD_KEYS, EqualToAll
from samples import BOOKS, adding, bring, falling, guarding, logging, ringing, telling, turn

DONE = turn("open", "done")
PLAIN = Book(["a", "b", "c"], ["n"], [])


def in_two(book, table, statement, first, second):
    """Return the end of the two goes, in the words of the model."""
    try:
        end = two_goes(book, table, statement, first, second)
    except Refused as error:
        return ("refused", error.name)
    except Endless:
        return ("endless",)
    return ("done", *shown(end))


def in_one(book, table, statement, first, second):
    """Return the end of one go that takes the rows of both picks."""
    picks = {kind: first.get(kind, 0) + second.get(kind, 0) for kind in statement.reads()}
    try:
        end = run(book, table, statement, picks).table
    except Refused as error:
        return ("refused", error.name)
    except Endless:
        return ("endless",)
    return ("done", *shown(end))


def alike(one, two):
    """Tell whether two ends are the same, whichever trigger refuses."""
    return one == two or one[0] == two[0] == "refused"


def without_0(told):
    """Return what the model tells, without what is 0."""
    return (told[0], *[{name: number for name, number in dict_of.items() if number} for dict_of in told[1:]]) \
        if told[0] == "done" else told


def picks_of(numbers):
    """Return all pairs of first and second picks for the numbers of rows that there are."""
    choices = [[(first, second) for first in range(number + 1) for second in range(number + 1 - first)]
               for number in numbers.values()]
    return [tuple({kind: pair[at] for kind, pair in zip(numbers, pairs)} for at in (0, 1))
            for pairs in itertools.product(*choices)]


class TwoGoes(unittest.TestCase):
    def check(self, book, rows, statement, first, second, after, worths=()):
        counters = {"total": 0} if book.counters == ("total",) else {}
        end = two_goes(book, Table(rows, counters), statement, first, second)
        self.assertIsInstance(end, Table)
        self.assertEqual(shown(end), shown(Table(after, worths)))

    def test_without_triggers(self):
        self.check(PLAIN, {"a": 5}, turn("a", "b"), {"a": 2}, {"a": 1}, {"a": 2, "b": 3})
        self.check(PLAIN, {"a": 5}, turn("a"), {"a": 5}, {}, {})
        self.check(PLAIN, {"a": 5, "b": 3}, Statement({"a": ["b"], "b": ["a", "c"]}), {"a": 1, "b": 1}, {"a": 2, "b": 1},
                   {"a": 4, "b": 4, "c": 2})

    def test_the_second_go_brings_nothing(self):
        self.check(PLAIN, {"a": 5}, Statement({"a": ["b"]}, {"c": 2}), {"a": 2}, {"a": 1}, {"a": 2, "b": 3, "c": 2})
        self.check(PLAIN, {}, bring("c", 9), {}, {}, {"c": 9})

    def test_what_the_first_go_makes_is_not_taken_again(self):
        self.check(PLAIN, {"a": 1, "b": 1}, Statement({"a": ["b"], "b": ["c"]}), {"a": 1}, {"b": 1}, {"b": 1, "c": 1})
        self.check(PLAIN, {"a": 2}, turn("a", "a", "a"), {"a": 1}, {"a": 1}, {"a": 4})

    def test_picks_that_take_nothing(self):
        noting = Statement({"open": ["done"]}, {"done": 1})
        self.check(logging(0), {"open": 2}, DONE, {}, {}, {"open": 2, "log": 1})
        self.check(logging(0), {"open": 2}, DONE, {"open": 0}, {"open": 0}, {"open": 2, "log": 1})
        self.check(logging(0), {"open": 2}, DONE, {"open": 2}, {}, {"done": 2, "log": 1})
        self.check(logging(0), {"open": 2}, DONE, {}, {"open": 2}, {"done": 2, "log": 2})
        self.check(logging(0), {"open": 2}, noting, {"open": 1}, {"open": 1}, {"done": 3, "log": 2})
        self.check(logging(0), {"open": 2}, Statement({}), {}, {}, {"open": 2})

    def test_triggers_see_each_go(self):
        self.check(logging(1), {"open": 5}, DONE, {"open": 2}, {"open": 3}, {"done": 5, "log": 2})
        self.check(logging(3), {"open": 5}, DONE, {"open": 2}, {"open": 3}, {"done": 5, "log": 1})
        self.check(logging(3), {"open": 5}, DONE, {"open": 2}, {"open": 2}, {"done": 4, "open": 1})
        self.check(adding(), {"open": 5}, turn("open", "done", "done"), {"open": 2}, {"open": 1},
                   {"done": 6, "open": 2}, {"total": 3})
        self.check(telling(), {"open": 5}, turn("open", "done", "done"), {"open": 2}, {"open": 1},
                   {"done": 6, "open": 2}, {"total": 8})

    def test_rows_that_a_trigger_changes_between_the_goes(self):
        def changing(*deeds):
            return Book(["a", "b", "c"], [], [Trigger("t", ["a"], [], [(["old.a"], 2, 2)], deeds)])
        # The second picks are all rows of a that are left, and some more that stay.
        for deeds, after in (
                ([turn("a", "c")], {"b": 2, "c": 5}),
                ([turn("a")], {"b": 2}),
                ([turn("a", "a", "a")], {"a": 7, "b": 5}),
                ([turn("a", "c", "a")], {"a": 5, "b": 2, "c": 5}),
                ([turn("a", "c"), turn("c", "a")], {"a": 2, "b": 5}),
                ([turn("a", "c", "c"), turn("c", "a", "a")], {"a": 17, "b": 5}),
                ([turn("a", "c"), turn("c"), bring("a", 9)], {"a": 9, "b": 2}),
                ([bring("a")], {"a": 3, "b": 5})):
            self.check(changing(*deeds), {"a": 7}, turn("a", "b"), {"a": 2}, {"a": 3}, after)

    def test_rows_that_become_of_another_kind_that_is_read(self):
        swap = Trigger("t", ["a"], [], [(["old.a"], 2, 2)], [Statement({"a": ["b"], "b": ["a"]})])
        book = Book(["a", "b", "c", "d"], [], [swap])
        statement = Statement({"a": ["c"], "b": ["d"]})
        self.check(book, {"a": 6, "b": 3}, statement, {"a": 2}, {"a": 1, "b": 2}, {"a": 3, "b": 1, "c": 4, "d": 1})
        # The first go takes none of a kind that picks lack.
        self.check(book, {"a": 6, "b": 3}, statement, {"a": 2, "b": 1}, {"b": 2}, {"a": 4, "c": 4, "d": 1})
        self.check(book, {"a": 6, "b": 3}, statement, {"b": 1}, {"b": 2}, {"a": 6, "d": 3})

    def test_the_second_go_is_not_done_if_none_is_left(self):
        first = Trigger("t", ["a"], [], [(["old.a"], 1, 1)], [turn("a", "c")])
        second = Trigger("u", ["a"], [], [], [bring("b")])
        self.check(Book(["a", "b", "c"], [], [first, second]), {"a": 5}, turn("a"), {"a": 1}, {"a": 2}, {"b": 2, "c": 4})
        self.check(Book(["a", "b", "c"], [], [second]), {"a": 5}, turn("a"), {"a": 1}, {"a": 2}, {"a": 2, "b": 2})
        self.check(Book(["a", "b", "c"], [], [second]), {"a": 5}, turn("a"), {"a": 1}, {}, {"a": 4, "b": 1})

    def test_refused_and_endless_goes(self):
        for picks, name in ((({"done": 1}, {"done": 1}), "guard"), (({"done": 2}, {}), "guard"), (({}, {"done": 1}), None)):
            found = in_two(guarding(0), Table({"done": 2}), turn("done", "open"), *picks)
            self.assertEqual(found, ("refused", "guard"))
        self.assertEqual(in_two(guarding(1), Table({"done": 3}), turn("done", "open"), {"done": 1}, {"done": 1}),
                         ("refused", "guard"))
        self.assertEqual(in_two(guarding(1), Table({"done": 3}), turn("done", "open"), {"done": 1}, {})[0], "done")
        self.assertEqual(in_two(ringing(), Table({"a": 1, "b": 1}), turn("b", "b"), {}, {}), ("endless",))
        self.assertEqual(in_two(ringing(), Table({"a": 1, "b": 1}), turn("b"), {"b": 1}, {}),
                         ("done", {"a": 1}, {}))
        no = Trigger("no", ["a"], [], [(["old.a"], 1, 1)], ["refuse"])
        ring = Trigger("ring", ["a"], [], [(["old.a"], 2, 2)], [bring("b")])
        round_about = Trigger("round", [], ["b"], [], [turn("b", "b")])
        book = Book(["a", "b"], [], [no, ring, round_about])
        for first, second, end in ((1, 2, ("refused", "no")), (2, 1, ("endless",)), (3, 1, ("refused", "no")),
                                   (3, 2, ("endless",)), (3, 3, ("done", {"a": 4}, {})), (0, 1, ("refused", "no"))):
            self.assertEqual(in_two(book, Table({"a": 10}), turn("a"), {"a": first}, {"a": second}), end)

    def test_great_numbers(self):
        self.check(adding(), {"open": HUGE}, turn("open", "done", "done"), {"open": HUGE // 2}, {"open": HUGE // 4},
                   {"done": HUGE // 2 * 3, "open": HUGE // 4}, {"total": HUGE // 4 * 3})

    def test_unknown_names(self):
        for table, statement, name in (
                (Table({"z": 1, "a": 1}), turn("x"), "z"), (Table({"a": 1}, {"m": 1, "l": 2}), turn("x"), "l"),
                (Table({"a": 1}), turn("x"), "x"), (Table({}), Statement({"a": ["e"]}, {"d": 1}), "d"),
                (Table({"n": 1}), turn("a"), "n"), (Table({}, {"a": 1}), turn("a"), "a")):
            with self.assertRaises(Unknown) as caught:
                two_goes(PLAIN, table, statement, {"b": 1}, {"c": -1})
            self.assertEqual(caught.exception.name, name)

    def bad(self, first, second, book=PLAIN, rows=None, statement=None):
        both = Statement({"a": ["b"], "b": []}, {"c": 1})
        with self.assertRaises(BadPicks) as caught:
            two_goes(book, Table(rows or {"a": 3, "c": 5}), statement or both, first, second)
        return caught.exception.kind

    def test_wrong_first_picks(self):
        for key in ["c", "n", *ODD_KEYS]:
            self.assertIs(self.bad({key: 0}, {"a": 9}), key)
            self.assertIs(self.bad({"a": 3, key: 1, "b": 7}, {}), key)
        for number in [-1, 4, HUGE, -HUGE, *ODD_INTEGERS]:
            self.assertEqual(self.bad({"a": number, "c": 1}, {"c": 1}), "a")
        self.assertEqual(self.bad({"b": 1, "a": -1}, {"c": 1}), "b")
        self.assertEqual(self.bad({"a": 1, "c": 0, "b": -1}, {}), "c")

    def test_wrong_second_picks(self):
        for key in ["c", "n", *ODD_KEYS]:
            self.assertIs(self.bad({"a": 3}, {key: 0}), key)
            self.assertIs(self.bad({}, {"a": 3, key: 1, "b": 7}), key)
        for number in [-1, 2, 3, HUGE, -HUGE, *ODD_INTEGERS]:
            self.assertEqual(self.bad({"a": 2}, {"b": 0, "a": number, "c": 1}), "a")
        self.assertEqual(self.bad({"a": 0}, {"a": 4}), "a")
        self.assertEqual(self.bad({}, {"a": 4}), "a")
        self.assertEqual(self.bad({"a": 3}, {"a": 1}), "a")
        self.check(PLAIN, {"a": 3}, turn("a"), {"a": 1}, {"a": 2}, {})

    def test_picks_that_are_no_dicts(self):
        for thing in (None, 1, "a", ["a"], EqualToAll(), Table({})):
            self.assertIsNone(self.bad(thing, {"a": 9}))
            self.assertIsNone(self.bad({"a": 1}, thing))

    def test_picks_come_ahead_of_what_the_triggers_do(self):
        self.assertEqual(self.bad({"done": 1}, {"done": 2}, guarding(0), {"done": 2}, turn("done", "open")), "done")
        self.assertEqual(self.bad({"a": 1}, {"a": 1}, ringing(), {"a": 1}, turn("a", "a")), "a")

    def test_what_is_passed_stays_and_parameters_by_name(self):
        first, second, table = {"open": 1}, {"open": 1}, Table({"open": 3})
        end = two_goes(second=second, first=first, statement=DONE, table=table, book=logging(1))
        self.assertTrue(end == Table({"open": 1, "done": 2, "log": 2}) and table == Table({"open": 3}))
        self.assertEqual([first, second], [{"open": 1}, {"open": 1}])
        self.assertTrue(end == two_goes(logging(1), table, DONE, first, second))

    def test_books_by_chance(self):
        chance = random.Random(53)
        ends = {"refused": 0, "endless": 0, "done": 0}
        for _ in range(1200):
            book, number = book_by(chance), chance.random()
            statement, rows, worths = statement_by(chance, book.kinds), rows_by(chance, book), worths_by(chance, book)
            first = {kind: chance.randint(0, rows[kind]) for kind in statement.reads() if chance.random() < 0.9}
            second = {kind: chance.randint(0, rows[kind] - first.get(kind, 0)) for kind in statement.reads()
                      if number < 0.9}
            try:
                wanted = end_of_goes(book, rows, worths, statement, [first, second])
            except TooMuch:
                continue
            found = in_two(book, Table(rows, worths), statement, first, second)
            self.assertEqual(found, without_0(wanted), book.text())
            ends[found[0]] += 1
        self.assertTrue(all(many > 50 for many in ends.values()), ends)


class Uncuttable(unittest.TestCase):
    def check(self, book, statement, size):
        found = uncuttable(book, statement)
        if size is None:
            self.assertIsNone(found)
            return
        self.assertIsInstance(found, tuple)
        table, first, second = found
        self.assertEqual(table.size(), size)
        for picks in (first, second):
            self.assertEqual(list(picks), statement.reads())
            self.assertGreater(sum(picks.values()), 0)
        self.assertFalse(alike(in_one(book, table, statement, first, second),
                               in_two(book, table, statement, first, second)))
        self.check_smaller(book, statement, range(size))

    def check_smaller(self, book, statement, sizes, few=False):
        """Check that there is no other answer with so many rows."""
        for size in sizes:
            for table in tables_of(book, size, few):
                for first, second in picks_of({kind: table.rows(kind) for kind in statement.reads()}):
                    if sum(first.values()) and sum(second.values()):
                        self.assertTrue(alike(in_one(book, table, statement, first, second),
                                              in_two(book, table, statement, first, second)))

    def test_of_the_document(self):
        found = uncuttable(logging(2), DONE)
        self.assertTrue(found == (Table({"open": 2}), {"open": 1}, {"open": 1}))
        self.assertIsNone(uncuttable(adding(), DONE))

    def test_what_reads_nothing(self):
        for book in BOOKS:
            self.check(book, bring(book.kinds[0]), None)
            self.check(book, Statement({}), None)

    def test_without_triggers(self):
        for statement in (turn("a", "b"), turn("a", "a", "a"), turn("a"), Statement({"a": ["b"], "b": ["a", "c"]}, {"a": 3})):
            self.check(PLAIN, statement, None)

    def test_known_books(self):
        self.check(logging(0), DONE, 2)
        self.check(logging(1), DONE, 2)
        self.check(logging(2), DONE, 2)
        self.check(logging(3), DONE, 3)
        self.check(logging(2), turn("open", "log"), None)
        self.check(logging(2), turn("open", "done", "open"), 2)
        self.check(telling(), Statement({"open": ["done"], "done": ["open", "open"]}), None)
        self.check(telling(), turn("open"), None)
        self.check(adding(), Statement({"open": ["done", "done"], "done": []}, {"open": 2}), None)
        for number in range(3):
            self.check(guarding(number), turn("done", "open"), None)
            # What goes and comes at once goes ahead of what comes, in the goes.
            self.check(guarding(number), turn("open", "open", "open"), None)
            self.check(guarding(number), Statement({"done": ["open"], "open": ["done"]}), max(2, 1 + number))
        self.check(falling(1), turn("d", "a"), 2)
        self.check(falling(0), turn("d", "a"), None)
        self.check(ringing(), turn("a", "b"), None)
        self.check(ringing(), turn("a"), None)

    def test_rows_that_are_not_taken(self):
        # At one row that is left, behind the first go, the trigger brings another one.
        book = Book(["a", "b"], [], [Trigger("t", ["a"], [], [(["a"], 1, 1)], [bring("b")])])
        self.check(book, turn("a"), 2)
        book = Book(["a", "b"], [], [Trigger("t", ["a"], [], [(["a"], 2, 2)], [bring("b")])])
        self.check(book, turn("a"), 3)
        book = Book(["a", "b"], [], [Trigger("t", ["a"], [], [(["a"], 2, 2), (["b"], 1, None)], [bring("b")])])
        self.check(book, turn("a"), 4)
        book = Book(["a", "b"], [], [Trigger("t", ["a"], [], [(["a"], 3, 3), (["b"], 2, None)], [turn("b")])])
        self.check(book, turn("a"), 6)

    def test_worths(self):
        deeds = [("set", "n", Form({"n": 2}))]
        self.check(Book(["a"], ["n"], [Trigger("t", ["a"], [], [], deeds)]), turn("a"), 2)
        self.check(Book(["a"], ["n"], [Trigger("t", ["a"], [], [], [("set", "n", Form({"a": 1}))])]), turn("a"), None)
        self.check(Book(["a"], ["n"], [Trigger("t", ["a"], [], [], [("add", "n", Form({"a": 1}))])]), turn("a"), 2)
        self.check(Book(["a"], ["n"], [Trigger("t", ["a"], [], [], [("add", "n", Form({"a": 1}, -1))])]), turn("a"), 3)
        self.check(Book(["a"], ["n"], [Trigger("t", ["a"], [], [], [("add", "n", Form({"old.a": 3}))])]), turn("a"), None)
        deeds = [("add", "n", Form({"a": 1, "b": -2}, -1))]
        self.check(Book(["a", "b"], ["n"], [Trigger("t", ["a"], [], [], deeds)]), turn("a"), 3)

    def test_a_table_with_fewer_rows_comes_later(self):
        # If both goes take rows of b it takes three rows to see it, otherwise two.
        book = Book(["a", "b"], ["n"], [Trigger("t", ["a", "b"], [], [], [("add", "n", Form({"b": 1}, -1))])])
        self.check(book, turn("b"), 3)
        self.check(book, Statement({"a": [], "b": []}), 2)

    def test_whichever_trigger_refuses(self):
        first = Trigger("p", ["a"], [], [(["old.a"], 1, 1)], ["refuse"])
        second = Trigger("q", ["a"], [], [(["old.a"], 2, None)], ["refuse"])
        self.check(Book(["a"], [], [first, second]), turn("a"), None)
        self.check(Book(["a"], [], [first]), turn("a"), 2)
        self.check(Book(["a"], [], [second]), turn("a"), 2)
        ring = Trigger("r", ["a"], [], [(["old.a"], 2, None)], [turn("a", "a")])
        self.check(Book(["a"], [], [first, ring]), turn("a"), 2)

    def test_rows_that_a_trigger_changes(self):
        book = Book(["a", "b"], [], [Trigger("t", [], ["b"], [], [turn("a")])])
        self.check(book, turn("a", "b"), 2)
        self.check(book, turn("a", "a"), None)
        self.check(book, turn("a"), None)

    def test_many_classes(self):
        book = Book(["a", "b", "c", "d"], ["n"], [Trigger("t", list("abcd"), list("abcd"), [(["a"], 0, None)],
                                                          [("set", "n", Form({"a": 1, "b": 2, "c": 4, "d": 8}))])])
        self.check(book, Statement({kind: [kind] for kind in "abcd"}), None)
        book = Book(["a", "b", "c"], [], [Trigger("t", ["a"], [], [(["old.a", "b", "c"], 3, 3)], [bring("b")])])
        self.check(book, turn("a", "a"), 2 + 1)

    def test_rows_of_a_kind_that_is_not_read(self):
        book = Book(["a", "b", "c", "d"], ["n"], [Trigger("t", ["a", "b", "c"], [], [], [("add", "n", Form({"d": 1}))])])
        self.check(book, Statement({"a": ["a"], "b": ["a"], "c": ["a"]}), 3)
        self.check(book, Statement({"c": ["a"]}), 3)

    def test_unknown_kinds(self):
        for statement, name in ((turn("z", "y"), "z"), (Statement({"a": ["z"]}, {"y": 1}), "y"), (bring("n"), "n")):
            with self.assertRaises(Unknown) as caught:
                uncuttable(PLAIN, statement)
            self.assertEqual(caught.exception.name, name)
        with self.assertRaises(LotError):
            uncuttable(statement=turn("z"), book=PLAIN)

    def test_what_is_returned_is_new(self):
        for _ in range(2):
            _, first, second = uncuttable(logging(1), DONE)
            self.assertEqual([first, second], [{"open": 1}, {"open": 1}])
            first.clear()
            second["open"] = 7

    def test_books_by_chance(self):
        chance = random.Random(59)
        sizes = {}
        for _ in range(250):
            book = book_by(chance)
            statement = statement_by(chance, book.kinds)
            if not statement.reads() or (book.cap + 1) ** (len(book.kinds) + 2 * len(statement.reads())) > 800:
                continue
            # The model tells which runs end soon.
            try:
                for rows in itertools.product(range(min(3, book.cap + 1)), repeat=len(book.kinds)):
                    end_of(book, dict(zip(book.kinds, rows)), {}, statement)
            except TooMuch:
                continue
            found = uncuttable(book, statement)
            size = None if found is None else found[0].size()
            self.check(book, statement, size)
            if size is None:
                self.check_smaller(book, statement, range(5), True)
            sizes[size] = sizes.get(size, 0) + 1
        self.assertGreater(min(sizes[size] for size in (None, 2, 3)), 1, sizes)


class ManyGoes(unittest.TestCase):
    """What may be cut, and brings nothing, may be done in any number of goes."""

    def test_books_by_chance(self):
        chance = random.Random(61)
        checked = 0
        for _ in range(700):
            book = book_by(chance)
            statement = Statement(statement_by(chance, book.kinds).turns())
            if not statement.reads() or (book.cap + 1) ** (len(book.kinds) + 2 * len(statement.reads())) > 800:
                continue
            rows, worths = rows_by(chance, book), worths_by(chance, book)
            left = {kind: chance.randint(0, rows[kind]) for kind in statement.reads()}
            if sum(left.values()) < 2 or not stays_away(book, statement):
                continue
            whole = [kind for kind, number in left.items() for _ in range(number)]
            chance.shuffle(whole)
            goes = [{kind: 1} for kind in whole]
            try:
                one = end_of(book, rows, worths, statement, left)[:3]
                many = end_of_goes(book, rows, worths, statement, goes)
            except TooMuch:
                continue
            if uncuttable(book, statement) is None:
                self.assertTrue(alike(one, many), (book.text(), statement.text(), rows, goes))
                checked += 1
        self.assertGreater(checked, 50)


def stays_away(book, statement):
    """Tell whether no trigger makes a row one of a kind that the statement reads that was not."""
    reads = statement.reads()
    deeds = [deed for trigger in book.triggers for deed in trigger.deeds if isinstance(deed, Statement)]
    return all(kind in reads or not kinds or kinds[0] not in reads
               for deed in deeds for kind, kinds in deed.turns().items())


if __name__ == "__main__":
    unittest.main()
