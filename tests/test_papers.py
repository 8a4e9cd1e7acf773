import random
import unittest

from statementlots.books import Book, Trigger
from statementlots.errors import BadClass, LotError, Unknown
from statementlots.forms import Form
from statementlots.papers import calls, is_paper, outcome
from statementlots.runs import class_of, run
from statementlots.statements import Statement
from statementlots.tables import Table

from chances import book_by, statement_by
from ends import end_by_runs, shown
from model import TooMuch, calls_of, end_of
from odd import HUGE, ODD_INTEGERS, EqualToAll, Hostile
from samples import BOOKS, adding, bring, falling, filling, guarding, logging, ringing, telling, turn

DONE = turn("open", "done")
PLAIN = Book(["a", "b", "c"], ["n"], [])


def told(found):
    """Return an outcome with the texts of its forms."""
    return (found[0], {name: form.text() for name, form in found[1].items()}) if found[0] == "done" else found


def effect(book, statement, numbers):
    found = outcome(book, statement, numbers)
    assert found[0] == "done", found
    return told(found)[1]


class Outcomes(unittest.TestCase):
    def test_of_the_document(self):
        self.assertEqual(outcome(guarding(1), bring("open"), (0, 1)), ("refused", "guard"))
        self.assertEqual(outcome(ringing(), bring("a"), (0, 0)), ("endless",))

    def test_words_of_kinds_below_the_cap_are_left_out(self):
        self.assertEqual(effect(PLAIN, turn("a", "b", "c"), (0, 0, 0)), {"a": "0", "b": "0", "c": "0", "n": "1 n"})
        self.assertEqual(effect(PLAIN, turn("a", "b", "c"), (1, 0, 0)),
                         {"a": "0", "b": "1 a", "c": "1 a", "n": "1 n"})
        self.assertEqual(effect(PLAIN, turn("a", "b", "c"), (1, 1, 1)),
                         {"a": "0", "b": "1 a + 1 b", "c": "1 a + 1 c", "n": "1 n"})
        self.assertEqual(effect(guarding(1), DONE, (2, 2)), {"done": "4", "open": "0"})
        self.assertEqual(effect(guarding(1), DONE, (3, 2)), {"done": "1 done + 2", "open": "0"})
        self.assertEqual(effect(guarding(1), DONE, (2, 3)), {"done": "1 open + 2", "open": "0"})

    def test_no_more_is_known_at_the_cap(self):
        self.assertEqual(effect(guarding(2), Statement({}), (0, 4)), {"done": "0", "open": "1 open"})
        self.assertEqual(outcome(guarding(2), bring("open"), (0, 1))[0], "done")
        self.assertEqual(outcome(guarding(2), bring("open"), (0, 2)), ("refused", "guard"))

    def test_the_empty_statement(self):
        self.assertEqual(effect(PLAIN, Statement({}), (0, 1, 1)), {"a": "0", "b": "1 b", "c": "1 c", "n": "1 n"})
        watching = Book(["a"], [], [Trigger("t", ["a"], ["a"], [], ["refuse"])])
        self.assertEqual(effect(watching, Statement({}), (1,)), {"a": "1 a"})

    def test_counters(self):
        self.assertEqual(effect(adding(), Statement({"open": ["done", "open"]}), (0, 1)),
                         {"done": "1 open", "open": "1 open", "total": "1 open + 1 total"})
        self.assertEqual(effect(telling(), turn("open", "open", "open"), (1, 1)),
                         {"done": "1 done", "open": "2 open", "total": "1 done + 2 open"})
        deeds = [("add", "n", Form({"n": 1, "m": 2}, 3)), ("set", "m", Form({"n": 1, "old.a": -1, "new.b": 5}))]
        book = Book(["a", "b"], ["m", "n"], [Trigger("t", ["a"], [], [], deeds)])
        self.assertEqual(effect(book, turn("a", "b", "b"), (1, 0)),
                         {"a": "0", "b": "2 a", "m": "9 a + 2 m + 2 n + 3", "n": "2 m + 2 n + 3"})
        self.assertEqual(effect(book, turn("a", "b", "b"), (0, 0)),
                         {"a": "0", "b": "0", "m": "2 m + 2 n + 3", "n": "2 m + 2 n + 3"})

    def test_names_of_effects_ascend_together(self):
        book = Book(["d", "b"], ["c", "a"], [])
        self.assertEqual(list(outcome(book, bring("b"), (0, 0))[1]), ["a", "b", "c", "d"])

    def test_statements_within_statements(self):
        self.assertEqual(effect(falling(4), bring("a"), (0, 1, 0, 1)),
                         {"a": "1", "b": "1 b + 4", "c": "16", "d": "1 d + 64"})
        self.assertEqual(effect(filling(3), bring("a"), (0,)), {"a": "3", "n": "1 n + 6"})
        self.assertEqual(effect(filling(3), bring("a"), (3,)), {"a": "1 a + 1", "n": "1 n"})

    def test_old_and_new_lots_are_those_of_the_statement_that_sets_off(self):
        deeds = [turn("b", "a"), ("set", "n", Form({"old.a": 1, "new.b": 10, "a": 100, "b": 1000, "new.a": 7}))]
        book = Book(["a", "b"], ["n"], [Trigger("t", ["a"], [], [], deeds)])
        self.assertEqual(effect(book, turn("a", "b"), (1, 1)),
                         {"a": "1 a + 1 b", "b": "0", "n": "111 a + 100 b"})

    def test_refused_within_others(self):
        book = Book(["a", "b"], [], [Trigger("q", [], ["b"], [(["b"], 1, 2)], ["refuse"]),
                                     Trigger("p", [], ["a"], [], [bring("b"), bring("a")])])
        self.assertEqual(outcome(book, bring("a"), (0, 0)), ("refused", "q"))
        self.assertEqual(outcome(book, bring("a"), (0, 1)), ("refused", "q"))
        self.assertEqual(outcome(book, bring("a"), (0, 2)), ("endless",))

    def test_a_trigger_that_refuses_ahead_of_an_endless_one(self):
        first = Trigger("no", [], ["a"], [], ["refuse"])
        rings = list(ringing().triggers)
        self.assertEqual(outcome(Book(["a", "b"], [], [first, *rings]), bring("a"), (0, 0)), ("refused", "no"))
        self.assertEqual(outcome(Book(["a", "b"], [], [*rings, first]), bring("a"), (0, 0)), ("endless",))

    def test_numbers_have_no_bound(self):
        book = Book(["a", "b"], [], [Trigger(name, ["b"], [], [], [turn("a", "a", "a", "a")] * 4) for name in "pqrs"])
        self.assertEqual(effect(book, turn("b"), (1, 0)), {"a": f"{3 ** 16} a", "b": "0"})

    def test_parameters_by_name_and_lists_for_tuples(self):
        self.assertEqual(outcome(numbers=[0, 1], statement=bring("open"), book=guarding(1)), ("refused", "guard"))
        found = outcome(numbers=(0,), statement=bring("a"), book=filling(1))
        self.assertIsInstance(found, tuple)
        self.assertIsInstance(found[1]["a"], Form)

    def test_what_is_returned_is_new(self):
        book, numbers = adding(), [1, 1]
        outcome(book, DONE, numbers)[1].clear()
        self.assertEqual(list(outcome(book, DONE, numbers)[1]), ["done", "open", "total"])
        self.assertEqual(numbers, [1, 1])
        self.assertTrue(book == adding())
        self.assertEqual(outcome(book, DONE, numbers), outcome(book, DONE, numbers))


class WrongClasses(unittest.TestCase):
    def bad(self, numbers, book=PLAIN):
        with self.assertRaises(BadClass) as caught:
            outcome(book, Statement({}), numbers)
        return caught.exception.index

    def test_integers(self):
        for at in range(3):
            for wrong in [-1, 2, HUGE, -HUGE, *ODD_INTEGERS]:
                numbers = [0, 1, 0]
                numbers[at] = wrong
                self.assertEqual(self.bad(numbers), at)
                self.assertEqual(self.bad(tuple(numbers)), at)
        self.assertEqual(self.bad([0, 2, -1]), 1)
        self.assertEqual(self.bad([4, 5], guarding(2)), 1)
        self.assertEqual(self.bad([5, 0], guarding(2)), 0)

    def test_as_many_as_kinds(self):
        for numbers in ([], (), [0], (0, 1), [0, 1, 0, 1], (0,) * 9):
            self.assertEqual(self.bad(numbers), 3)
        self.assertEqual(self.bad([0, 2]), 1)
        self.assertEqual(self.bad([0, None]), 1)
        self.assertEqual(self.bad([0, 0, 0, 2]), 3)
        self.assertEqual(self.bad([0], guarding(1)), 2)

    def test_what_is_no_list(self):
        for thing in (None, 0, 3, True, "000", b"000", {0: 0, 1: 0, 2: 0}, {0}, range(3), EqualToAll(), Hostile(),
                      iter([0, 0, 0])):
            self.assertEqual(self.bad(thing), 3)

    def test_unknown_kinds_come_first(self):
        for numbers in ((9, 9, 9), None, (0, 0, 0)):
            with self.assertRaises(Unknown) as caught:
                outcome(PLAIN, Statement({"b": ["y", "x"], "d": []}, {"e": 1}), numbers)
            self.assertEqual(caught.exception.name, "d")
            with self.assertRaises(Unknown) as caught:
                outcome(PLAIN, Statement({"b": ["y", "x"]}, {"e": 1}), numbers)
            self.assertEqual(caught.exception.name, "e")
        with self.assertRaises(Unknown) as caught:
            outcome(PLAIN, bring("n"), (0, 0, 0))
        self.assertEqual(caught.exception.name, "n")

    def test_the_error_is_a_lot_error(self):
        with self.assertRaises(LotError):
            outcome(PLAIN, Statement({}), None)


class ByRuns(unittest.TestCase):
    """The one form for each name is told by the runs on the least table, and on those with one more of something."""

    def forms(self, book, statement, numbers):
        least = Table(dict(zip(book.kinds, numbers)))
        capped = [kind for kind, number in zip(book.kinds, numbers) if number == book.cap]
        ends = {None: run(book, least, statement).table}
        ends.update({kind: run(book, least + Table({kind: 1}), statement).table for kind in capped})
        ends.update({name: run(book, least + Table({}, {name: 1}), statement).table for name in book.counters})
        forms = {}
        for name in sorted([*book.kinds, *book.counters]):
            worth = {at: end.rows(name) + end.worth(name) for at, end in ends.items()}
            parts = {at: worth[at] - worth[None] for at in [*capped, *book.counters]}
            forms[name] = Form(parts, worth[None] - book.cap * sum(parts[kind] for kind in capped))
        return forms

    def test_books_by_chance(self):
        chance = random.Random(31)
        ends = {"refused": 0, "endless": 0, "done": 0}
        for _ in range(800):
            book = book_by(chance)
            statement = statement_by(chance, book.kinds)
            numbers = tuple(chance.choice([0, book.cap, chance.randint(0, book.cap)]) for _ in book.kinds)
            least = dict(zip(book.kinds, numbers))
            try:
                expected = end_of(book, least, {}, statement)
            except TooMuch:
                continue
            found = outcome(book, statement, numbers)
            ends[found[0]] += 1
            if expected[0] != "done":
                self.assertEqual(found, expected, book.text())
                continue
            self.assertEqual(found, ("done", self.forms(book, statement, numbers)), book.text())
            self.assertEqual(list(found[1]), sorted(found[1]))
            more = Table({kind: chance.randint(0, 10 ** 12) for kind in book.kinds if least[kind] == book.cap},
                         {name: chance.randint(-9 ** 9, 9 ** 9) for name in book.counters})
            table = Table(least) + more
            self.assertEqual(class_of(book, table), numbers)
            rows, worths = shown(table)
            wanted = {name: form.of({**rows, **worths}) for name, form in found[1].items()}
            end = run(book, table, statement).table
            self.assertEqual({name: end.rows(name) + end.worth(name) for name in wanted}, wanted)
        self.assertTrue(all(many > 50 for many in ends.values()), ends)


class Calls(unittest.TestCase):
    def shown(self, book, statements):
        return [(statement.text(), numbers, rank, told(found))
                for statement, numbers, rank, found in calls(book, statements)]

    def test_no_statements(self):
        for book in BOOKS:
            self.assertEqual(calls(book, []), [])

    def test_without_triggers(self):
        book = Book(["a"], [], [])
        self.assertEqual(self.shown(book, [Statement({}), turn("a")]), [
            ("a>", (0,), 0, ("done", {"a": "0"})), ("a>", (1,), 0, ("done", {"a": "0"})),
            ("nothing", (0,), 0, ("done", {"a": "0"})), ("nothing", (1,), 0, ("done", {"a": "1 a"}))])

    def test_inner_calls_and_ranks(self):
        self.assertEqual(self.shown(filling(2), [bring("a")]), [
            ("+a 1", (0,), 1, ("done", {"a": "2", "n": "1 n + 2"})),
            ("+a 1", (1,), 0, ("done", {"a": "2", "n": "1 n"})),
            ("+a 1", (2,), 0, ("done", {"a": "1 a + 1", "n": "1 n"}))])
        ranks = {row[0]: {} for row in self.shown(falling(2), [bring("a")])}
        for text, numbers, rank, _ in self.shown(falling(2), [bring("a")]):
            ranks[text][numbers] = rank
        self.assertEqual({text: set(found.values()) for text, found in ranks.items()},
                         {"+a 1": {3}, "+b 1": {2}, "+c 1": {1}, "+d 1": {0}})
        # Behind the first row of a there is always one, behind the first row of b as well.
        self.assertEqual([len(ranks[text]) for text in ("+a 1", "+b 1", "+c 1", "+d 1")], [16, 8, 4, 2])

    def test_endless_calls(self):
        self.assertEqual([row[:3] for row in self.shown(ringing(), [bring("a")])], [
            ("+a 1", (0, 0), None), ("+a 1", (0, 1), None), ("+a 1", (1, 0), None), ("+a 1", (1, 1), None),
            ("a>b", (1, 0), None), ("a>b", (1, 1), None), ("b>a", (0, 1), None)])
        self.assertEqual({row[3] for row in calls(ringing(), [bring("a")])}, {("endless",)})

    def test_an_endless_call_within_itself(self):
        book = Book(["a"], [], [Trigger("t", [], ["a"], [], [Statement({}), bring("a")])])
        self.assertEqual(self.shown(book, [bring("a")]), [
            ("+a 1", (0,), None, ("endless",)), ("+a 1", (1,), None, ("endless",)),
            ("nothing", (1,), 0, ("done", {"a": "1 a"}))])

    def test_what_comes_behind_a_refusal_is_no_call(self):
        book = Book(["a", "b", "c"], [], [Trigger("p", [], ["a"], [], [bring("b"), bring("c")]),
                                          Trigger("q", [], ["b"], [], ["refuse"])])
        self.assertEqual(self.shown(book, [bring("a")])[0], ("+a 1", (0, 0, 0), 1, ("refused", "q")))
        self.assertEqual({row[0] for row in self.shown(book, [bring("a")])}, {"+a 1", "+b 1"})
        self.assertEqual({row[2] for row in self.shown(book, [bring("b")])}, {0})

    def test_many_calls_within_calls(self):
        # The triggers count in three figures, each number within the one before.
        book = Book(["a", "b", "c", "d"], ["n"], [
            Trigger("t", [], ["a"], [(["a"], 1, 2), (["d"], 0, 0)], [bring("a"), ("add", "n", Form({}, 1))]),
            Trigger("u", [], ["a"], [(["a"], 3, 3), (["d"], 0, 0), (["b"], 0, 2)],
                    [Statement({"a": []}, {"a": 1, "b": 1})]),
            Trigger("v", [], ["a"], [(["a"], 3, 3), (["b"], 3, None), (["c"], 0, 2)],
                    [Statement({"a": [], "b": []}, {"a": 1, "c": 1})]),
            Trigger("w", [], ["a"], [(["c"], 3, None), (["b"], 3, None), (["d"], 0, 0)], [bring("d")])])
        self.assertEqual(effect(book, bring("a"), (0, 0, 0, 0)), {"a": "3", "b": "3", "c": "3", "d": "1", "n": "1 n + 32"})
        rows = calls(book, [bring("a")])
        self.assertEqual(max(row[2] for row in rows), 48)
        self.assertEqual([row[2] for row in rows if row[:2] == (bring("a"), (0, 0, 0, 0))], [48])
        self.assertTrue(is_paper(book, rows))

    def test_the_same_statement_twice(self):
        self.assertEqual(calls(adding(), [DONE, bring("open"), DONE]), calls(adding(), [bring("open"), DONE]))

    def test_kinds_of_values(self):
        rows = calls(statements=(DONE,), book=logging(1))
        self.assertIsInstance(rows, list)
        for row in rows:
            self.assertIsInstance(row, tuple)
            statement, numbers, rank, found = row
            self.assertIsInstance(statement, Statement)
            self.assertIsInstance(numbers, tuple)
            self.assertIsInstance(rank, int)
            self.assertIsInstance(found, tuple)
        rows[0][3][1].clear()
        rows.clear()
        texts = [row[0].text() for row in calls(logging(1), [DONE])]
        self.assertEqual([texts.count("open>done"), texts.count("+log 1"), len(texts)], [27, 6, 33])

    def test_unknown_kinds(self):
        with self.assertRaises(Unknown) as caught:
            calls(guarding(1), [DONE, Statement({"open": ["y"]}, {"x": 1}), bring("z")])
        self.assertEqual(caught.exception.name, "x")
        with self.assertRaises(Unknown) as caught:
            calls(ringing(), [bring("a"), bring("n"), bring("m")])
        self.assertEqual(caught.exception.name, "n")

    def test_books_by_chance(self):
        chance = random.Random(37)
        endless = refused = 0
        for _ in range(250):
            book = book_by(chance)
            if (book.cap + 1) ** len(book.kinds) > 64:
                continue
            statements = [statement_by(chance, book.kinds) for _ in range(chance.choice([1, 1, 2]))]
            wanted = {}
            try:
                for statement in statements:
                    for numbers in classes(book):
                        for call in calls_of(book, dict(zip(book.kinds, numbers)), statement):
                            # The last one of an endless row is broken off, but equal to one ahead of it.
                            wanted.setdefault(call.key, call)
            except TooMuch:
                continue
            rows = calls(book, statements)
            keys = [(statement.text(), numbers) for statement, numbers, _, _ in rows]
            self.assertEqual(keys, sorted(wanted), book.text())
            ranks = dict(zip(keys, [row[2] for row in rows]))
            for (statement, numbers, rank, found), key in zip(rows, keys):
                self.assertEqual(found, outcome(book, statement, numbers))
                inner = wanted[key].inner
                if found[0] == "endless":
                    self.assertIsNone(rank)
                    self.assertIsNone(ranks[inner[-1]])
                else:
                    self.assertEqual(rank, max([1 + ranks[call] for call in inner], default=0))
            endless += ("endless",) in [row[3] for row in rows]
            refused += "refused" in [row[3][0] for row in rows]
            self.assertTrue(is_paper(book, rows))
        self.assertGreater(endless, 15)
        self.assertGreater(refused, 15)


def classes(book):
    found = [()]
    for _ in book.kinds:
        found = [(*numbers, number) for numbers in found for number in range(book.cap + 1)]
    return found


class Papers(unittest.TestCase):
    def both(self, book, rows, wanted):
        """Tell whether this is a paper, also if lists stand for tuples, and in another order."""
        self.assertIs(is_paper(book, rows), wanted)
        self.assertIs(is_paper(book, tuple(reversed(rows))), wanted)
        lists = [[statement, list(numbers), rank, list(found)] for statement, numbers, rank, found in rows]
        self.assertIs(is_paper(book, lists), wanted)

    def with_row(self, rows, at, **changes):
        """Return rows of which one has other things."""
        places = ["statement", "numbers", "rank", "found"]
        row = [changes.get(place, thing) for place, thing in zip(places, rows[at])]
        return [*rows[:at], tuple(row), *rows[at + 1:]]

    def test_no_rows(self):
        for book in BOOKS:
            self.assertIs(is_paper(book, []), True)
            self.assertIs(is_paper(rows=(), book=book), True)

    def test_what_calls_returns(self):
        for book in BOOKS:
            statements = [bring(book.kinds[0]), turn(book.kinds[-1], *book.kinds[:2]), Statement({})]
            if (book.cap + 1) ** len(book.kinds) < 100:
                self.both(book, calls(book, statements), True)

    def test_rows_that_others_need(self):
        rows = calls(filling(3), [bring("a")])
        self.assertEqual([row[2] for row in rows], [2, 1, 0, 0])
        for at, wanted in ((0, True), (1, False), (2, False), (3, True)):
            self.both(filling(3), [*rows[:at], *rows[at + 1:]], wanted)
        self.both(filling(3), rows[:3], True)
        self.both(filling(3), rows[1:3], True)
        self.both(filling(3), rows[1:2], False)
        self.both(filling(3), [*rows, *calls(filling(3), [turn("a")])], True)
        rows = calls(ringing(), [bring("a")])
        for at in range(len(rows)):
            # In one class the other trigger goes on with another statement.
            needed = any(rows[at][0] in (turn("a", "b"), turn("b", "a")) and numbers == rows[at][1]
                         for numbers in ((1, 0), (1, 1), (0, 1)))
            self.both(ringing(), [*rows[:at], *rows[at + 1:]], not needed)

    def test_ranks(self):
        rows = calls(filling(3), [bring("a")])
        self.both(filling(3), self.with_row(rows, 0, rank=3), True)
        self.both(filling(3), self.with_row(rows, 0, rank=10 ** 30), True)
        self.both(filling(3), self.with_row(rows, 3, rank=7), True)
        for at, rank in ((0, 1), (0, 0), (0, None), (1, 2), (1, 0), (1, None), (2, 1), (2, None), (3, None)):
            self.both(filling(3), self.with_row(rows, at, rank=rank), False)
        higher = [(statement, numbers, 5 + 2 * rank, found) for statement, numbers, rank, found in rows]
        self.both(filling(3), higher, True)
        rows = calls(ringing(), [bring("a")])
        for at in range(len(rows)):
            for rank in (0, 9):
                self.both(ringing(), self.with_row(rows, at, rank=rank), False)

    def test_outcomes(self):
        rows = calls(filling(2), [bring("a")])
        one, n = Form({"a": 1}, 1), Form({"n": 1})
        self.assertEqual(rows[2][3], ("done", {"a": one, "n": n}))
        for effect_of in ({"a": one}, {"n": n}, {}, {"a": one, "n": n, "b": one}, {"a": one, "n": one},
                          {"a": Form({"a": 1}), "n": n}, {"a": Form({"a": 1, "old.a": 1}, 1), "n": n},
                          {"a": Form({}, 3), "n": n}, {"b": one, "n": n}, {"a": Form({"b": 1}, 1), "n": n}):
            self.both(filling(2), self.with_row(rows, 2, found=("done", effect_of)), False)
        self.both(filling(2), self.with_row(rows, 2, found=("done", {"n": n, "a": one})), True)
        # What has the same worth at the class below the cap is not the one form.
        self.both(filling(2), self.with_row(rows, 1, found=("done", {"a": one, "n": n})), False)
        for found in (("endless",), ("refused", "fill"), ("refused", "x")):
            for at in range(3):
                self.both(filling(2), self.with_row(rows, at, found=found), False)
        rows = calls(guarding(0), [bring("open")])
        self.both(guarding(0), rows, True)
        self.both(guarding(0), self.with_row(rows, 0, found=("refused", "open")), False)
        self.both(guarding(0), self.with_row(rows, 0, found=("endless",), rank=None), False)

    def test_false_outcomes_that_bear_one_another_out(self):
        for found, rank in ((("refused", "to"), 1), (("refused", "to"), None),
                            (("done", {"a": Form({}), "b": Form({"b": 1})}), 4)):
            rows = [(statement, numbers, rank, found) for statement, numbers, _, _ in calls(ringing(), [bring("a")])]
            self.both(ringing(), rows, False)
        # What is false within other rows is false for these as well.
        rows = calls(filling(3), [bring("a")])
        four = ("done", {"a": Form({}, 4), "n": Form({"n": 1}, 4)})
        self.both(filling(3), [(rows[0][0], (0,), 9, four), (rows[1][0], (1,), 8, four), (rows[2][0], (2,), 7, four)],
                  False)

    def test_the_same_call_twice(self):
        rows = calls(filling(2), [bring("a")])
        for row in rows:
            self.both(filling(2), [*rows, row], False)
            self.both(filling(2), [*rows, (row[0], row[1], row[2] + 9, row[3])], False)
            self.both(filling(2), [*rows, (Statement.parse(row[0].text()), list(row[1]), row[2], row[3])], False)

    def test_refused_within_others(self):
        book = Book(["a", "b"], [], [Trigger("p", [], ["a"], [], [bring("b"), Statement({})]),
                                     Trigger("q", [], ["b"], [], ["refuse"])])
        rows = calls(book, [bring("a")])
        self.both(book, rows, True)
        self.assertEqual(len(rows), 6)
        for at, row in enumerate(rows):
            self.assertEqual(row[3], ("refused", "q"))
            self.both(book, self.with_row(rows, at, found=("refused", "p")), False)
            # Behind what is refused nothing begins, so that no row is needed for the empty statement.
            self.both(book, self.with_row(rows, at, rank=row[2] + 5), row[0] == bring("a"))

    def test_wrong_classes(self):
        rows = calls(guarding(1), [bring("open")])
        for numbers, index in (((0, 4), 1), ([0], 2), ((0, 0, 0), 2), (None, 2), ((True, 9), 0)):
            with self.assertRaises(BadClass) as caught:
                is_paper(guarding(1), [*rows, (bring("open"), numbers, 0, ("endless",)), *rows])
            self.assertEqual(caught.exception.index, index)

    def test_unknown_kinds(self):
        for numbers in ((0, 0), None):
            with self.assertRaises(Unknown) as caught:
                is_paper(guarding(1), [(bring("x"), numbers, 0, ("endless",))])
            self.assertEqual(caught.exception.name, "x")

    def test_what_is_passed_stays(self):
        rows = calls(filling(3), [bring("a")])
        before = [(statement.text(), numbers, rank, dict(found[1])) for statement, numbers, rank, found in rows]
        self.assertTrue(is_paper(filling(3), rows))
        self.assertEqual([(statement.text(), numbers, rank, found[1]) for statement, numbers, rank, found in rows],
                         before)


if __name__ == "__main__":
    unittest.main()
