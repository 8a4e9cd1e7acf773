import random
import unittest

from statementlots.books import Book, Trigger
from statementlots.errors import BadPicks, Endless, LotError, Refused, Unknown
from statementlots.forms import Form
from statementlots.runs import Outcome, run
from statementlots.statements import Statement
from statementlots.tables import Table

from chances import book_by, rows_by, statement_by, worths_by
from model import TooMuch, end_of
from odd import HUGE, ODD_INTEGERS, ODD_KEYS, EqualToAll
from samples import adding, bring, falling, filling, full, guarding, logging, ringing, telling, turn, wordy

DONE = Statement({"open": ["done"]})
PLAIN = Book(["a", "b", "c"], ["n"], [])


def book_of(*triggers):
    return Book(["a", "b", "c", "d"], ["m", "n"], triggers)


def end(book, rows, worths, statement, picks=None):
    """Return what becomes of a table by the program, in the words of the model."""
    try:
        outcome = run(book, Table(rows, worths), statement, picks)
    except Refused as error:
        return ("refused", error.name)
    except Endless:
        return ("endless",)
    numbers = {kind: outcome.table.rows(kind) for kind in book.kinds}
    return ("done", numbers, {name: outcome.table.worth(name) for name in book.counters}, outcome.fired())


class Rows(unittest.TestCase):
    def check(self, rows, statement, after, picks=None):
        outcome = run(PLAIN, Table(rows, {"n": 7}), statement, picks)
        self.assertTrue(outcome.table == Table(after, {"n": 7}), statement.text())
        self.assertEqual(outcome.fired(), {})

    def test_rows_go_become_others_and_bring_others_with_them(self):
        self.check({"a": 3, "b": 1}, turn("a"), {"b": 1})
        self.check({"a": 3, "b": 1}, turn("a", "b"), {"b": 4})
        self.check({"a": 3, "b": 1}, turn("a", "b", "c"), {"b": 4, "c": 3})
        self.check({"a": 3, "b": 1}, turn("a", "a", "a", "a"), {"a": 9, "b": 1})
        self.check({"a": 3, "b": 1}, turn("a", "a"), {"a": 3, "b": 1})
        self.check({"a": 3}, turn("a", "b", "b", "c"), {"b": 6, "c": 3})

    def test_rows_come(self):
        self.check({"a": 1}, Statement({}, {"a": 9, "c": 2}), {"a": 10, "c": 2})
        self.check({}, bring("b"), {"b": 1})

    def test_nothing_is_done(self):
        self.check({"a": 1, "b": 2}, Statement({}), {"a": 1, "b": 2})
        self.check({"b": 2}, turn("a", "b", "c"), {"b": 2})

    def test_all_is_done_at_once(self):
        self.check({"a": 1, "b": 5}, Statement({"a": ["b"], "b": ["a"]}), {"a": 5, "b": 1})
        self.check({"a": 2}, Statement({"a": ["b"], "b": []}), {"b": 2})
        self.check({"a": 2}, Statement({"a": []}, {"a": 1}), {"a": 1})
        self.check({"a": 1, "b": 2, "c": 3}, Statement({"a": ["b"], "b": ["c"], "c": ["a", "a"]}, {"a": 1}),
                   {"a": 7, "b": 1, "c": 2})

    def test_numbers_have_no_bound(self):
        self.check({"a": 10 ** 30, "b": 1}, turn("a", "b", "b"), {"b": 2 * 10 ** 30 + 1})
        outcome = run(adding(), Table({"open": HUGE}, {"total": -HUGE}), Statement({"open": ["open"] * 3}))
        self.assertTrue(outcome.table == Table({"open": 3 * HUGE}, {"total": HUGE}))

    def test_picks(self):
        self.check({"a": 5, "b": 1}, turn("a", "b"), {"a": 3, "b": 3}, {"a": 2})
        self.check({"a": 5, "b": 1}, turn("a", "b"), {"a": 5, "b": 1}, {"a": 0})
        self.check({"a": 5, "b": 1}, turn("a", "b"), {"b": 6}, {"a": 5})
        self.check({"a": 5, "b": 1}, turn("a", "b"), {"b": 6}, {})
        both = Statement({"a": ["b"], "b": ["a", "c"]}, {"c": 1})
        self.check({"a": 5, "b": 7}, both, {"a": 11, "b": 1, "c": 8}, {"a": 1})
        self.check({"a": 5, "b": 7}, both, {"a": 6, "b": 6, "c": 3}, {"a": 1, "b": 2})
        self.check({"a": 5, "b": 7}, both, {"a": 5, "b": 7, "c": 1}, {"b": 0, "a": 0})
        self.check({"a": HUGE}, turn("a"), {"a": 1}, {"a": HUGE - 1})

    def test_parameters_by_name(self):
        outcome = run(picks={"a": 1}, statement=turn("a"), table=Table({"a": 3}), book=PLAIN)
        self.assertTrue(outcome.table == Table({"a": 2}))


class Firing(unittest.TestCase):
    def test_examples_of_the_document(self):
        outcome = run(adding(), Table({"open": 3}, {"total": 3}), Statement({"open": ["done", "open"]}))
        self.assertTrue(outcome.table == Table({"done": 3, "open": 3}, {"total": 6}))
        self.assertEqual(outcome.fired(), {"keep": 1})
        self.assertEqual(run(falling(4), Table({}), bring("a")).fired(), {"falla": 1, "fallb": 4, "fallc": 16})

    def test_known_books(self):
        self.assertTrue(run(telling(), Table({"open": 3}, {"total": 9}), bring("done")).table
                        == Table({"open": 3, "done": 1}, {"total": 4}))
        self.assertTrue(run(telling(), Table({"open": 3}, {"total": 9}), Statement({"open": []})).table
                        == Table({}, {"total": 9}))
        self.assertTrue(run(guarding(2), Table({"open": 1}), bring("open")).table == Table({"open": 2}))
        self.assertTrue(run(logging(2), Table({"open": 2}), DONE).table == Table({"done": 2, "log": 1}))
        self.assertTrue(run(logging(2), Table({"open": 1}), DONE).table == Table({"done": 1}))
        self.assertTrue(run(falling(4), Table({}), bring("a")).table == Table({"a": 1, "b": 4, "c": 16, "d": 64}))
        self.assertTrue(run(falling(0), Table({}), bring("a", 9)).table == Table({"a": 9}))

    def test_fired_has_all_triggers_in_ascending_order(self):
        book = book_of(*[Trigger(name, [], ["a"] if name == "s" else [], [], []) for name in "tsqr"])
        fired = run(book, Table({}), bring("a")).fired()
        self.assertEqual(list(fired.items()), [("q", 0), ("r", 0), ("s", 1), ("t", 0)])
        self.assertEqual(run(Book(["a"], [], []), Table({}), bring("a")).fired(), {})

    def test_a_trigger_is_set_off_whether_there_are_rows_or_not(self):
        old = Trigger("old", ["a"], [], [], [("add", "n", Form({}, 1))])
        new = Trigger("new", [], ["b"], [], [("add", "n", Form({}, 10))])
        self.assertTrue(run(book_of(old, new), Table({}), turn("a", "b")).table == Table({}, {"n": 11}))
        self.assertTrue(run(book_of(old, new), Table({"a": 1}), turn("a", "b"), {"a": 0}).table
                        == Table({"a": 1}, {"n": 11}))
        self.assertTrue(run(book_of(old, new), Table({"c": 1}), turn("c", "a")).table == Table({"a": 1}))

    def test_words_in_forms(self):
        form = Form({"a": 1, "b": 10, "old.a": 100, "old.b": 1000, "new.a": 10 ** 4, "new.b": 10 ** 5, "m": 10 ** 6}, 10 ** 7)
        trigger = Trigger("t", ["a"], [], [], [("add", "n", form)])
        table = run(book_of(trigger), Table({"a": 2, "b": 3, "c": 9}, {"m": 4, "n": 5}), Statement(
            {"a": ["b", "b"], "c": ["a"]}, {"b": 1})).table
        self.assertTrue(table.rows("a") == 9 and table.rows("b") == 8)
        self.assertEqual(table.worth("n"), 5 + 9 + 80 + 200 + 0 + 90000 + 500000 + 4 * 10 ** 6 + 10 ** 7)

    def test_add_and_set(self):
        deeds = [("add", "n", Form({"m": 1})), ("set", "m", Form({"n": 2, "m": -1}, 1)), ("add", "m", Form({"m": 1})),
                 ("set", "n", Form({"n": 1, "m": 1}))]
        book = book_of(Trigger("t", [], ["a"], [], deeds))
        self.assertTrue(run(book, Table({}, {"m": 3, "n": 5}), bring("a")).table == Table({"a": 1}, {"m": 28, "n": 36}))

    def test_lots_stay_whatever_becomes_of_the_rows(self):
        deeds = [turn("b"), bring("b", 5), ("add", "n", Form({"new.b": 1, "old.a": 10, "b": 100}))]
        table = run(book_of(Trigger("t", ["a"], [], [], deeds)), Table({"a": 3, "b": 2}), turn("a", "b", "b")).table
        self.assertTrue(table == Table({"b": 5}, {"n": 6 + 30 + 500}))

    def test_lots_are_those_of_the_statement_that_has_set_off_the_trigger(self):
        inner = Trigger("inner", [], ["c"], [], [("add", "n", Form({"new.c": 1, "new.b": 10, "old.b": 100, "old.a": 1000}))])
        outer = Trigger("outer", [], ["b"], [], [Statement({"b": ["c"]}, {"c": 1}), ("add", "m", Form(
            {"new.b": 1, "new.c": 10, "old.a": 100, "old.b": 1000}))])
        for triggers in ([inner, outer], [outer, inner]):
            table = run(book_of(*triggers), Table({"a": 2, "b": 1}), turn("a", "b")).table
            self.assertTrue(table == Table({"c": 4}, {"n": 4 + 300, "m": 2 + 200}))

    def test_lots_of_a_part(self):
        form = Form({"old.a": 1, "new.b": 10, "a": 100, "b": 1000})
        table = run(book_of(Trigger("t", ["a"], [], [], [("set", "n", form)])), Table({"a": 5, "b": 1}), Statement(
            {"a": ["b", "b"]}, {"b": 1}), {"a": 2}).table
        self.assertTrue(table == Table({"a": 3, "b": 6}, {"n": 2 + 50 + 300 + 6000}))

    def test_triggers_have_their_turns_in_the_order_of_the_book(self):
        one = Trigger("one", [], ["a"], [], [("add", "n", Form({"n": 1}))])
        other = Trigger("other", [], ["a"], [], [("add", "n", Form({}, 1))])
        self.assertTrue(run(book_of(one, other), Table({}, {"n": 3}), bring("a")).table == Table({"a": 1}, {"n": 7}))
        self.assertTrue(run(book_of(other, one), Table({}, {"n": 3}), bring("a")).table == Table({"a": 1}, {"n": 8}))

    def test_a_statement_is_finished_before_the_next_deed(self):
        inner = Trigger("inner", [], ["b"], [], [("add", "n", Form({}, 1))])
        outer = Trigger("outer", [], ["a"], [], [bring("b"), ("set", "m", Form({"n": 1})), bring("b")])
        for triggers in ([inner, outer], [outer, inner]):
            outcome = run(book_of(*triggers), Table({}), bring("a"))
            self.assertTrue(outcome.table == Table({"a": 1, "b": 2}, {"m": 1, "n": 2}))
            self.assertEqual(outcome.fired(), {"inner": 2, "outer": 1})

    def test_four_triggers_with_four_deeds_each(self):
        triggers = [Trigger(name, [], ["a"], [], [bring("b"), ("add", "m", Form({"b": 1})), turn("b", "b", "c"), (
            "add", "n", Form({"c": 1}))]) for name in "stuv"]
        outcome = run(book_of(*triggers), Table({}), bring("a"))
        self.assertTrue(outcome.table == Table({"a": 1, "b": 4, "c": 10}, {"m": 10, "n": 20}))
        self.assertEqual(outcome.fired(), {name: 1 for name in "stuv"})

    def test_many_statements(self):
        fall = [Trigger("s", [], ["a"], [], [bring("b")] * 4), Trigger("t", [], ["b"], [], [bring("c")] * 4),
                Trigger("u", [], ["c"], [], [bring("d")] * 4), Trigger("v", [], ["d"], [], [("add", "n", Form({"d": 1}))] * 4)]
        outcome = run(book_of(*fall), Table({}), bring("a"))
        self.assertEqual(outcome.fired(), {"s": 1, "t": 4, "u": 16, "v": 64})
        self.assertEqual(outcome.table.worth("n"), 4 * sum(range(65)))

    def test_statements_deeply_within_one_another(self):
        # A number with four figures, told by the rows of four kinds, goes up by 1 as long as it can.
        carry = [Trigger("p", [], ["a"], [(["a"], 0, 2)], [bring("a")]),
                 Trigger("q", [], ["a"], [(["a"], 3, 3), (["b"], 0, 2)], [Statement({"a": []}, {"b": 1, "a": 1})]),
                 Trigger("r", [], ["a"], [(["a"], 3, 3), (["b"], 3, 3), (["c"], 0, 2)], [
                     Statement({"a": [], "b": []}, {"c": 1, "a": 1})]),
                 Trigger("s", [], ["a"], [(["a"], 3, 3), (["b", "c"], 3, None), (["d"], 0, 2)], [
                     Statement({"a": [], "b": [], "c": []}, {"d": 1, "a": 1})])]
        book = Book(["a", "b", "c", "d"], [], carry)
        outcome = run(book, Table({}), bring("a"))
        self.assertEqual(end(book, {}, {}, bring("a")), end_of(book, {}, {}, bring("a")))
        self.assertGreater(sum(outcome.fired().values()), 150)

    def test_rows_that_come_one_by_one_up_to_a_bound(self):
        for bound in (1, 2, 3, 4):
            outcome = run(filling(bound), Table({}), bring("a"))
            self.assertTrue(outcome.table == Table({"a": bound}, {"n": bound * (bound - 1)}))
            self.assertEqual(outcome.fired(), {"fill": bound - 1})
            for rows in range(bound, bound + 3):
                self.assertEqual(run(filling(bound), Table({"a": rows}), bring("a")).fired(), {"fill": 0})


class Tests(unittest.TestCase):
    def fires(self, test, rows, statement):
        fired = run(book_of(Trigger("t", ["a"], ["a"], [test], [])), Table(rows), statement).fired()
        return fired["t"] == 1

    def test_bounds(self):
        for least in range(4):
            for most in (0, 1, 2, 3, None):
                for number in (*range(6), 10 ** 30):
                    holds = number >= least and (most is None or number <= most)
                    rows = {"a": number}
                    self.assertEqual(self.fires((["a"], least, most), rows, turn("a", "a")), holds)
                    self.assertEqual(self.fires((["old.a"], least, most), rows, turn("a")), holds)
                    self.assertEqual(self.fires((["new.b"], least, most), rows, turn("a", "b")), holds)
                    self.assertEqual(self.fires((["a", "b"], least, most), {"b": number}, turn("a")), holds)

    def test_sums_of_words(self):
        test = (["a", "old.a", "new.b", "new.a"], 3, 3)
        self.assertTrue(self.fires(test, {"a": 1}, turn("a", "b", "b")))
        self.assertFalse(self.fires(test, {"a": 1}, turn("a", "b", "a")))
        self.assertTrue(self.fires(test, {"a": 1}, Statement({"a": ["b"]}, {"b": 1})))
        self.assertTrue(self.fires((["a", "old.a", "new.a"], 3, 3), {"a": 1}, turn("a", "a")))

    def test_all_tests_must_hold(self):
        tests = [(["a"], 1, None), (["b"], 1, None), (["c"], 1, None)]
        book = book_of(Trigger("t", [], ["d"], tests, [("add", "n", Form({}, 1))]))
        for many in range(8):
            rows = {kind: many >> place & 1 for place, kind in enumerate("abc")}
            outcome = run(book, Table(rows), bring("d"))
            self.assertEqual(outcome.fired(), {"t": int(many == 7)})
            self.assertEqual(outcome.table.worth("n"), int(many == 7))

    def test_tests_are_looked_at_when_the_trigger_has_its_turn(self):
        clear = Trigger("clear", [], ["a"], [], [turn("a")])
        look = Trigger("look", [], ["a"], [(["a"], 1, None)], [])
        self.assertEqual(run(book_of(clear, look), Table({}), bring("a")).fired(), {"clear": 1, "look": 0})
        self.assertEqual(run(book_of(look, clear), Table({}), bring("a")).fired(), {"clear": 1, "look": 1})

    def test_tests_are_not_looked_at_again_between_deeds(self):
        once = Trigger("once", [], ["a"], [(["a"], 1, None)], [turn("a"), bring("b"), bring("b")])
        self.assertTrue(run(book_of(once), Table({}), bring("a", 2)).table == Table({"b": 2}))


class Refusing(unittest.TestCase):
    def refuser(self, *told):
        with self.assertRaises(Refused) as caught:
            run(*told)
        return caught.exception.name

    def test_the_trigger_is_told(self):
        self.assertEqual(self.refuser(guarding(0), Table({}), bring("open")), "guard")
        self.assertEqual(self.refuser(guarding(2), Table({"open": 2}), bring("open")), "guard")
        self.assertEqual(self.refuser(guarding(1), Table({"open": 10 ** 30}), Statement({"open": ["open"]})), "guard")

    def test_within_a_statement_that_another_trigger_does(self):
        outer = Trigger("outer", [], ["a"], [], [("add", "n", Form({}, 1)), bring("b"), ("add", "n", Form({}, 1))])
        middle = Trigger("middle", [], ["b"], [], [bring("c")])
        inner = Trigger("inner", [], ["c"], [], ["refuse"])
        for triggers in ([outer, middle, inner], [inner, middle, outer]):
            table = Table({"b": 1}, {"n": 5})
            self.assertEqual(self.refuser(book_of(*triggers), table, bring("a")), "inner")
            self.assertTrue(table == Table({"b": 1}, {"n": 5}))

    def test_nothing_further_is_done(self):
        first = Trigger("first", [], ["a"], [(["a"], 2, None)], ["refuse", turn("a", "b"), turn("b", "a")])
        ring = ringing().triggers
        book = Book(["a", "b"], [], [first, *ring])
        self.assertEqual(self.refuser(book, Table({"a": 1}), bring("a")), "first")
        self.assertEqual(end(book, {}, {}, bring("a")), ("endless",))

    def test_the_first_of_two(self):
        book = book_of(Trigger("z", [], ["a"], [], ["refuse"]), Trigger("y", [], ["a"], [], ["refuse"]))
        self.assertEqual(self.refuser(book, Table({}), bring("a")), "z")

    def test_of_a_part(self):
        self.assertEqual(self.refuser(guarding(1), Table({"done": 5}), Statement({"done": ["open"]}), {"done": 2}), "guard")
        self.assertTrue(run(guarding(1), Table({"done": 5}), Statement({"done": ["open"]}), {"done": 1}).table
                        == Table({"done": 4, "open": 1}))


class Unending(unittest.TestCase):
    def test_triggers_that_set_off_one_another(self):
        for rows in ({}, {"a": 1}, {"b": 3}, {"a": 10 ** 30, "b": 10 ** 30}):
            for statement in (bring("a"), bring("b"), turn("a", "b"), turn("b", "a")):
                with self.assertRaises(Endless):
                    run(ringing(), Table(rows), statement)
        self.assertTrue(run(ringing(), Table({"a": 1}), turn("a")).table == Table({}))

    def test_a_trigger_that_sets_off_itself(self):
        for deed in (bring("a"), turn("a", "a"), turn("b", "a"), Statement({"a": []}, {"a": 1})):
            book = book_of(Trigger("t", [], ["a"], [], [deed]))
            for statement in (bring("a"), turn("a", "a")):
                with self.assertRaises(Endless):
                    run(book, Table({"a": 2}), statement)

    def test_the_same_statement_twice_one_behind_the_other(self):
        twice = Trigger("t", [], ["a"], [], [turn("b", "b"), turn("b", "b")])
        self.assertEqual(run(book_of(twice), Table({"b": 1}), bring("a")).fired(), {"t": 1})

    def test_the_same_statement_within_itself_at_another_class(self):
        self.assertEqual(run(filling(4), Table({}), bring("a")).fired(), {"fill": 3})
        drain = Trigger("drain", ["b"], ["b"], [(["a"], 1, 3)], [Statement({"b": ["b"]}), turn("a")])
        self.assertEqual(end(book_of(drain), {"a": 1, "b": 1}, {}, turn("b", "b")), ("endless",))

    def test_a_part_within_which_all_rows_are_taken(self):
        # With only a part of its rows taken, the statement is not the one that the trigger does.
        again = Trigger("t", ["a"], [], [(["a"], 1, None)], [turn("a", "b")])
        book = Book(["a", "b"], [], [again])
        outcome = run(book, Table({"a": 9}), turn("a", "b"), {"a": 2})
        self.assertTrue(outcome.table == Table({"b": 9}))
        self.assertEqual(outcome.fired(), {"t": 1})
        self.assertEqual(run(book, Table({"a": 9}), turn("a", "b")).fired(), {"t": 0})

    def test_a_part_that_is_endless(self):
        for picks in ({}, {"a": 0}, {"a": 1}, {"a": 3}):
            with self.assertRaises(Endless):
                run(ringing(), Table({"a": 3}), turn("a", "b"), picks)


class Unknowns(unittest.TestCase):
    def unknown(self, *told):
        with self.assertRaises(Unknown) as caught:
            run(*told)
        return caught.exception.name

    def test_kinds_and_counters_of_the_table(self):
        self.assertEqual(self.unknown(PLAIN, Table({"a": 1, "x": 1}), turn("a")), "x")
        self.assertEqual(self.unknown(PLAIN, Table({}, {"n": 1, "x": 1}), turn("a")), "x")
        self.assertEqual(self.unknown(PLAIN, Table({"y": 1, "x": 1, "b": 1}), turn("a")), "x")
        self.assertEqual(self.unknown(PLAIN, Table({"y": 1}, {"x": 1}), turn("a")), "y")
        self.assertEqual(self.unknown(PLAIN, Table({}, {"y": -1, "x": 1}), turn("a")), "x")

    def test_names_with_0_do_not_count(self):
        self.assertTrue(run(PLAIN, Table({"x": 0}, {"y": 0}), turn("a")).table == Table({}))

    def test_kinds_of_the_statement(self):
        self.assertEqual(self.unknown(PLAIN, Table({}), turn("x", "a")), "x")
        self.assertEqual(self.unknown(PLAIN, Table({}), turn("a", "a", "x")), "x")
        self.assertEqual(self.unknown(PLAIN, Table({}), bring("x")), "x")
        self.assertEqual(self.unknown(PLAIN, Table({}), Statement({"z": ["x"], "y": ["a"]}, {"d": 1})), "y")
        self.assertEqual(self.unknown(PLAIN, Table({}), Statement({"a": ["z", "y"]}, {"x": 1})), "x")
        self.assertEqual(self.unknown(PLAIN, Table({}), Statement({"a": ["z", "y"], "b": ["e", "a"]})), "e")

    def test_a_counter_is_no_kind_and_a_kind_no_counter(self):
        self.assertEqual(self.unknown(PLAIN, Table({"n": 1}), turn("a")), "n")
        self.assertEqual(self.unknown(PLAIN, Table({}, {"a": 1}), turn("a")), "a")
        self.assertEqual(self.unknown(PLAIN, Table({}), turn("n")), "n")
        self.assertEqual(self.unknown(adding(), Table({}), turn("open", "keep")), "keep")

    def test_the_table_comes_ahead_of_the_statement_and_this_of_the_picks(self):
        self.assertEqual(self.unknown(PLAIN, Table({}, {"z": 1}), turn("x"), {"w": 1}), "z")
        self.assertEqual(self.unknown(PLAIN, Table({"z": 1}, {"y": 1}), turn("x"), None), "z")
        self.assertEqual(self.unknown(PLAIN, Table({}), turn("x"), {"w": 1}), "x")

    def test_unknown_names_come_ahead_of_what_the_triggers_do(self):
        self.assertEqual(self.unknown(guarding(0), Table({"x": 1}), bring("open")), "x")
        self.assertEqual(self.unknown(ringing(), Table({}), Statement({}, {"a": 1, "z": 1})), "z")


class Picks(unittest.TestCase):
    def bad(self, picks, book=PLAIN, rows=None, statement=None):
        both = Statement({"a": ["b"], "b": []}, {"c": 1})
        with self.assertRaises(BadPicks) as caught:
            run(book, Table(rows or {"a": 3, "c": 5}), statement or both, picks)
        return caught.exception.kind

    def test_kinds_that_the_statement_does_not_read(self):
        self.assertEqual(self.bad({"c": 1}), "c")
        self.assertEqual(self.bad({"c": 0}), "c")
        self.assertEqual(self.bad({"n": 0}), "n")
        for key in ODD_KEYS:
            self.assertIs(self.bad({key: 0}), key)
            self.assertIs(self.bad({"a": 1, key: 1, "b": 9}), key)

    def test_numbers_that_are_not_there(self):
        for number in (-1, 4, HUGE, -HUGE):
            self.assertEqual(self.bad({"a": number}), "a")
        self.assertEqual(self.bad({"b": 1}), "b")
        for value in ODD_INTEGERS:
            self.assertEqual(self.bad({"a": value}), "a")
            self.assertEqual(self.bad({"b": value}), "b")

    def test_the_first_wrong_key_is_told(self):
        self.assertEqual(self.bad({"a": 3, "c": 1, "b": 1}), "c")
        self.assertEqual(self.bad({"b": 1, "c": 1, "a": -1}), "b")
        self.assertEqual(self.bad({"b": 0, "a": None, EqualToAll(): 1}), "a")

    def test_picks_come_ahead_of_what_the_triggers_do(self):
        self.assertEqual(self.bad({"done": 1}, guarding(0), {"done": 1}, bring("open")), "done")
        self.assertEqual(self.bad({"a": 4}, ringing(), {"a": 3}, turn("a", "b")), "a")

    def test_what_is_no_dict(self):
        for thing in (1, True, "a", ["a"], (("a", 1),), Table({})):
            self.assertIsNone(self.bad(thing))

    def test_the_errors_are_lot_errors(self):
        for told in ((PLAIN, Table({"x": 1}), turn("a")), (PLAIN, Table({}), turn("a"), {"b": 1}),
                     (guarding(0), Table({}), bring("open")), (ringing(), Table({}), bring("a"))):
            with self.assertRaises(LotError):
                run(*told)


class Outcomes(unittest.TestCase):
    def test_what_is_passed_stays(self):
        table, statement, picks = Table({"open": 3}, {"total": 3}), Statement({"open": ["done"]}), {"open": 2}
        book = adding()
        run(book, table, statement, picks)
        self.assertTrue(table == Table({"open": 3}, {"total": 3}) and statement == DONE and picks == {"open": 2})
        self.assertTrue(book == adding())

    def test_what_is_returned_is_new(self):
        outcome = run(falling(1), Table({}), bring("a"))
        outcome.fired()["falla"] = 7
        outcome.fired().clear()
        self.assertEqual(outcome.fired(), {"falla": 1, "fallb": 1, "fallc": 1})
        self.assertIsInstance(outcome, Outcome)
        self.assertIsInstance(outcome.table, Table)

    def test_equal_arguments_give_equal_values(self):
        for _ in range(2):
            one, other = [run(falling(2), Table({"a": 1}), bring("a")) for _ in range(2)]
            self.assertTrue(one == other and one.table == other.table and one.fired() == other.fired())
        self.assertTrue(one != run(falling(2), Table({"a": 2}), bring("a")))
        self.assertTrue(one != run(falling(2), Table({"a": 1}), turn("a", "a")))
        for thing in (None, 0, one.table, one.fired(), EqualToAll()):
            self.assertIs(one == thing, False)

    def test_the_table_is_not_assigned(self):
        with self.assertRaises(AttributeError):
            run(PLAIN, Table({}), bring("a")).table = Table({})

    def test_large_books(self):
        outcome = run(wordy(), Table({"kinds": 2}), turn("kinds", "kinds"))
        self.assertEqual(list(outcome.fired().items()), [("nothing", 0), ("refuse", 0), ("test", 0), ("trigger", 0)])
        self.assertEqual(run(full(), Table({}), turn("a")).fired(), {name: 0 for name in "pqrs"})


class ByTheModel(unittest.TestCase):
    def test_books_by_chance(self):
        chance = random.Random(11)
        ends = {"refused": 0, "endless": 0, "done": 0}
        for _ in range(1500):
            book = book_by(chance)
            statement, rows, worths = statement_by(chance, book.kinds), rows_by(chance, book), worths_by(chance, book)
            picks = None
            if chance.random() < 0.4:
                picks = {kind: chance.randint(0, rows[kind]) for kind in statement.reads() if chance.random() < 0.7}
            try:
                expected = end_of(book, rows, worths, statement, picks)
            except TooMuch:
                continue
            self.assertEqual(end(book, rows, worths, statement, picks), expected, book.text())
            ends[expected[0]] += 1
        self.assertTrue(all(many > 50 for many in ends.values()), ends)


if __name__ == "__main__":
    unittest.main()
