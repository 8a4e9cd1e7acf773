import unittest

from statementlots.errors import BadTable, LotError
from statementlots.tables import Table

from odd import HUGE, ODD_INTEGERS, ODD_KEYS, ODD_NAMES, EqualToAll

NAMES = ["a", "z", "open", "done", "abcdefgh", "zzzzzzzz", "nothing", "old", "new"]


def bad_name(*told, **named):
    """Return what BadTable names for a table that is told wrong things."""
    try:
        Table(*told, **named)
    except BadTable as error:
        return error.name
    raise AssertionError("no error was raised")


class Telling(unittest.TestCase):
    def test_rows_and_worths(self):
        table = Table({"open": 3, "done": 1}, {"total": 4, "less": -2})
        self.assertEqual([table.rows("open"), table.rows("done"), table.rows("log")], [3, 1, 0])
        self.assertEqual([table.worth("total"), table.worth("less"), table.worth("more")], [4, -2, 0])

    def test_kinds_and_counters_are_apart(self):
        table = Table({"a": 1, "b": 2}, {"b": 5, "c": 6})
        self.assertEqual([table.rows(name) for name in "abc"], [1, 2, 0])
        self.assertEqual([table.worth(name) for name in "abc"], [0, 5, 6])

    def test_names_of_one_to_eight_letters(self):
        for name in NAMES:
            table = Table({name: 2}, {name: -3})
            self.assertEqual([table.rows(name), table.worth(name)], [2, -3])
            self.assertEqual([table.row_kinds(), table.counter_names()], [[name], [name]])

    def test_what_is_told_none_has_0(self):
        for table in (Table({}), Table({"a": 1}, {"a": 1}), Table({"open": 3}, {"total": 4})):
            for thing in ODD_NAMES + ["b", "abcdefgh"]:
                self.assertTrue(table.rows(thing) == 0 and isinstance(table.rows(thing), int))
                self.assertTrue(table.worth(thing) == 0 and isinstance(table.worth(thing), int))

    def test_numbers_have_no_bound(self):
        table = Table({"open": HUGE, "done": 1}, {"total": -HUGE, "more": HUGE})
        self.assertTrue(table.rows("open") == HUGE and table.worth("total") == -HUGE and table.worth("more") == HUGE)
        self.assertTrue(table.size() == HUGE + 1)
        self.assertTrue((table + table).rows("open") == 2 * HUGE)

    def test_ascending_lists_leave_out_what_is_0(self):
        table = Table({"open": 3, "log": 0, "done": 1, "a": 2, "abc": 1}, {"z": 1, "m": 0, "b": -1, "ba": 2})
        self.assertEqual(table.row_kinds(), ["a", "abc", "done", "open"])
        self.assertEqual(table.counter_names(), ["b", "ba", "z"])
        self.assertEqual([Table({}).row_kinds(), Table({}).counter_names()], [[], []])
        self.assertEqual([Table({"a": 0}, {"b": 0}).row_kinds(), Table({"a": 0}, {"b": 0}).counter_names()], [[], []])

    def test_size_counts_rows_and_no_worths(self):
        self.assertEqual(Table({"open": 3, "done": 4, "log": 0}, {"total": 100}).size(), 7)
        self.assertEqual([Table({}).size(), Table({"a": 0}).size(), Table({}, {"a": 5}).size()], [0, 0, 0])

    def test_an_empty_list_stands_for_no_counters(self):
        for none in ((), [], {}):
            self.assertTrue(Table({"a": 1}, none) == Table({"a": 1}))
            self.assertEqual(Table({"a": 1}, none).counter_names(), [])

    def test_parameters_by_name(self):
        table = Table(counters={"total": 4}, rows={"open": 3})
        self.assertTrue(table == Table({"open": 3}, {"total": 4}))
        self.assertEqual([table.rows(kind="open"), table.worth(counter="total")], [3, 4])


class Equality(unittest.TestCase):
    def test_equal_tables(self):
        pairs = [
            (Table({}), Table({}, {})),
            (Table({"a": 1, "b": 2}, {"c": 3, "d": -4}), Table({"b": 2, "a": 1}, {"d": -4, "c": 3})),
            (Table({"a": 0}, {"b": 0}), Table({})),
            (Table({"a": 1, "b": 0}, {"c": 0}), Table({"a": 1})),
        ]
        for one, other in pairs:
            self.assertTrue(one == other and other == one and one == one)
            self.assertFalse(one != other or other != one or one != one)

    def test_other_tables(self):
        tables = [
            Table({}), Table({"a": 1}), Table({"a": 2}), Table({"b": 1}), Table({"a": 1, "b": 1}),
            Table({}, {"a": 1}), Table({}, {"a": -1}), Table({"a": 1}, {"a": 1}), Table({"a": 1}, {"b": 1}),
        ]
        for place, one in enumerate(tables):
            for other in tables[:place]:
                self.assertTrue(one != other and other != one)
                self.assertFalse(one == other or other == one)

    def test_values_of_other_kinds(self):
        others = [None, 0, True, False, "", "a", {}, {"a": 1}, (), ({"a": 1}, {}), [], object(), EqualToAll(), Table]
        for table in (Table({}), Table({"a": 1})):
            for other in others:
                self.assertIs(table == other, False)
                self.assertIs(table != other, True)


class Sums(unittest.TestCase):
    def test_the_sum_has_the_sums_of_both(self):
        one = Table({"a": 1, "b": 2}, {"x": 3, "y": -4})
        other = Table({"b": 5, "c": 6}, {"y": 1, "z": -2})
        self.assertTrue(one + other == Table({"a": 1, "b": 7, "c": 6}, {"x": 3, "y": -3, "z": -2}))
        self.assertTrue(other + one == one + other)

    def test_with_the_table_of_nothing(self):
        table = Table({"a": 1}, {"x": -3})
        self.assertTrue(table + Table({}) == table and Table({}) + table == table)

    def test_worths_that_cancel(self):
        both = Table({}, {"x": 3, "y": 1}) + Table({}, {"x": -3})
        self.assertTrue(both == Table({}, {"y": 1}))
        self.assertEqual(both.counter_names(), ["y"])

    def test_the_summands_stay(self):
        one, other = Table({"a": 1}, {"x": 1}), Table({"a": 2}, {"x": 2})
        both = one + other
        self.assertTrue(one == Table({"a": 1}, {"x": 1}) and other == Table({"a": 2}, {"x": 2}))
        self.assertTrue(both == Table({"a": 3}, {"x": 3}))

    def test_the_names_of_a_sum_ascend(self):
        both = Table({"c": 1, "a": 1}, {"z": 1}) + Table({"b": 1}, {"y": 1})
        self.assertEqual([both.row_kinds(), both.counter_names()], [["a", "b", "c"], ["y", "z"]])

    def test_with_a_value_of_another_kind(self):
        for other in (None, 0, {}, {"a": 1}, ()):
            with self.assertRaises(TypeError):
                Table({"a": 1}) + other


class Wrong(unittest.TestCase):
    def test_keys_that_are_no_names(self):
        for key in ODD_KEYS:
            self.assertIs(bad_name({key: 1}), key)
            self.assertIs(bad_name({key: 0}), key)
            self.assertIs(bad_name({}, {key: 1}), key)
            self.assertIs(bad_name({}, {key: 0}), key)

    def test_values_that_are_no_integers(self):
        for value in ODD_INTEGERS:
            self.assertEqual(bad_name({"a": value}), "a")
            self.assertEqual(bad_name({}, {"a": value}), "a")

    def test_numbers_of_rows_below_0(self):
        for number in (-1, -2, -HUGE):
            self.assertEqual(bad_name({"a": number}), "a")
            self.assertTrue(Table({}, {"a": number}).worth("a") == number)

    def test_the_first_wrong_key_is_told(self):
        self.assertEqual(bad_name({"a": 1, "c": -1, "b": -1}), "c")
        self.assertEqual(bad_name({"c": True, "B": 1, "a": -1}), "c")
        self.assertEqual(bad_name({"B": 1, "a": -1}), "B")
        self.assertEqual(bad_name({"a": 1}, {"y": 1, "x": None, "w": None}), "x")

    def test_rows_come_ahead_of_counters(self):
        self.assertEqual(bad_name({"z": 1, "y": -1}, {"X": 1}), "y")
        self.assertEqual(bad_name({"z": 1}, {"x": 1, "X": 1}), "X")
        self.assertEqual(bad_name(counters={"a": None}, rows={"b": None}), "b")

    def test_what_is_no_dict(self):
        for thing in (None, 1, "a", [("a", 1)], (("a", 1),), {"a"}, Table({})):
            self.assertIsNone(bad_name(thing))
            self.assertIsNone(bad_name({}, thing))

    def test_the_error_is_a_lot_error(self):
        with self.assertRaises(LotError):
            Table({"a": -1})

    def test_the_dicts_are_not_changed_by_an_error(self):
        rows, counters = {"b": 1, "a": 0}, {"c": 0, "D": 1}
        self.assertEqual(bad_name(rows, counters), "D")
        self.assertEqual([list(rows.items()), list(counters.items())], [[("b", 1), ("a", 0)], [("c", 0), ("D", 1)]])


class Copies(unittest.TestCase):
    def test_what_was_passed_may_be_changed(self):
        rows, counters = {"b": 1, "a": 0}, {"x": 1}
        table = Table(rows, counters)
        self.assertEqual([list(rows.items()), list(counters.items())], [[("b", 1), ("a", 0)], [("x", 1)]])
        rows["b"] = 5
        rows["c"] = 5
        counters.clear()
        self.assertTrue(table == Table({"b": 1}, {"x": 1}))

    def test_what_is_returned_is_new(self):
        table = Table({"a": 1, "b": 1}, {"x": 1, "y": 1})
        table.row_kinds().append("c")
        table.counter_names().clear()
        self.assertEqual([table.row_kinds(), table.counter_names()], [["a", "b"], ["x", "y"]])
        self.assertIsInstance(table.row_kinds(), list)
        self.assertIsInstance(table.counter_names(), list)


if __name__ == "__main__":
    unittest.main()
