import unittest

from statementlots.errors import BadStatement, LotError, Overlap
from statementlots.statements import Statement

from odd import HUGE, ODD_INTEGERS, ODD_KEYS, ODD_NAMES, EqualToAll

NAMES = ["a", "z", "open", "done", "abcdefgh", "zzzzzzzz", "nothing", "old", "new"]

# What is no list of at most three kinds.
ODD_LISTS = [
    None, True, False, 0, 1, 1.5, "", "a", "abc", b"abc", {}, {"a": 1}, set(), {"a"}, frozenset(), range(0), iter([]),
    object(), EqualToAll(), list, ["a"] * 4, ("a",) * 4, ["a", "b", "c", "d"], ["a"] * 1000,
]


def bad_kind(*told, **named):
    """Return what BadStatement names for a statement that is told wrong things."""
    try:
        Statement(*told, **named)
    except BadStatement as error:
        return error.kind
    raise AssertionError("no error was raised")


def overlap(one, other):
    """Return the kind that Overlap names for the join of two statements."""
    try:
        one | other
    except Overlap as error:
        return error.kind
    raise AssertionError("no error was raised")


class Telling(unittest.TestCase):
    def test_turns_have_ascending_keys_and_tuples(self):
        turns = Statement({"open": ["done", "log"], "done": [], "a": ("open", "open", "a")}).turns()
        self.assertEqual(list(turns.items()), [("a", ("open", "open", "a")), ("done", ()), ("open", ("done", "log"))])
        self.assertIsInstance(turns, dict)
        self.assertTrue(all(isinstance(kinds, tuple) for kinds in turns.values()))

    def test_brings_have_ascending_keys(self):
        brings = Statement({}, {"open": 1, "log": 9, "done": 5}).brings()
        self.assertEqual(list(brings.items()), [("done", 5), ("log", 9), ("open", 1)])
        self.assertIsInstance(brings, dict)

    def test_lists_of_none_to_three_kinds_in_their_order(self):
        for kinds in ([], ["b"], ["c", "b"], ["c", "a", "b"], ["b", "b", "b"], ["a", "c", "a"]):
            self.assertEqual(Statement({"a": kinds}).turns(), {"a": tuple(kinds)})
            self.assertEqual(Statement({"a": tuple(kinds)}).turns(), {"a": tuple(kinds)})

    def test_brings_from_1_to_9(self):
        for number in range(1, 10):
            self.assertEqual(Statement({}, {"a": number}).brings(), {"a": number})

    def test_names_of_one_to_eight_letters(self):
        for name in NAMES:
            statement = Statement({name: [name]}, {name: 1})
            self.assertEqual([statement.turns(), statement.brings()], [{name: (name,)}, {name: 1}])

    def test_nothing(self):
        for statement in (Statement({}), Statement({}, {}), Statement({}, ()), Statement({}, [])):
            self.assertEqual([statement.turns(), statement.brings()], [{}, {}])
            self.assertEqual([statement.reads(), statement.writes()], [[], []])

    def test_reads_are_the_kinds_of_the_turns(self):
        self.assertEqual(Statement({"open": ["a"], "done": [], "b": ["b"]}, {"log": 1}).reads(), ["b", "done", "open"])
        self.assertEqual(Statement({}, {"log": 1}).reads(), [])

    def test_writes_are_the_kinds_of_the_lists_and_the_brings(self):
        statement = Statement({"open": ["z", "a"], "done": [], "b": ["b", "a"]}, {"log": 1, "z": 2})
        self.assertEqual(statement.writes(), ["a", "b", "log", "z"])
        self.assertEqual(Statement({"open": []}).writes(), [])
        self.assertEqual(Statement({"open": ["open"]}).writes(), ["open"])
        self.assertEqual(Statement({}, {"b": 1, "a": 1}).writes(), ["a", "b"])

    def test_parameters_by_name(self):
        statement = Statement(brings={"a": 1}, turns={"b": ["c"]})
        self.assertTrue(statement == Statement({"b": ["c"]}, {"a": 1}))

    def test_many_kinds(self):
        letters = "abcdefghijklmnopqrstuvwxyz"
        names = [one + other for one in letters for other in letters]
        statement = Statement({name: [name] for name in reversed(names)}, {name: 9 for name in reversed(names)})
        self.assertEqual([statement.reads(), statement.writes()], [names, names])


class Equality(unittest.TestCase):
    def test_equal_statements(self):
        pairs = [
            (Statement({}), Statement({}, {})),
            (Statement({"a": ["b", "c"]}), Statement({"a": ("b", "c")})),
            (Statement({"a": [], "b": ["c"]}, {"a": 1, "b": 2}), Statement({"b": ["c"], "a": []}, {"b": 2, "a": 1})),
        ]
        for one, other in pairs:
            self.assertTrue(one == other and other == one and one == one)
            self.assertFalse(one != other or other != one or one != one)

    def test_other_statements(self):
        statements = [
            Statement({}), Statement({"a": []}), Statement({"b": []}), Statement({"a": ["a"]}), Statement({"a": ["b"]}),
            Statement({"a": ["a", "b"]}), Statement({"a": ["b", "a"]}), Statement({"a": ["a", "a"]}),
            Statement({"a": [], "b": []}), Statement({}, {"a": 1}), Statement({}, {"a": 2}), Statement({}, {"b": 1}),
            Statement({"a": []}, {"a": 1}), Statement({"a": ["a"]}, {"a": 1}), Statement({}, {"a": 1, "b": 1}),
        ]
        for place, one in enumerate(statements):
            for other in statements[:place]:
                self.assertTrue(one != other and other != one)
                self.assertFalse(one == other or other == one)

    def test_values_of_other_kinds(self):
        others = [None, 0, True, False, "", "nothing", "a>", {}, {"a": ()}, (), [], object(), EqualToAll(), Statement]
        for statement in (Statement({}), Statement({"a": []})):
            for other in others:
                self.assertIs(statement == other, False)
                self.assertIs(statement != other, True)


class Joins(unittest.TestCase):
    def test_the_join_has_the_turns_and_the_brings_of_both(self):
        one = Statement({"open": ["done"], "a": []}, {"log": 2, "x": 1})
        other = Statement({"done": ["open", "log"]}, {"log": 7, "b": 3})
        both = Statement({"a": [], "done": ["open", "log"], "open": ["done"]}, {"b": 3, "log": 9, "x": 1})
        self.assertTrue(one | other == both and other | one == both)
        self.assertEqual(list((other | one).turns()), ["a", "done", "open"])
        self.assertEqual(list((other | one).brings()), ["b", "log", "x"])

    def test_with_nothing(self):
        for statement in (Statement({}), Statement({"a": ["a"]}, {"a": 9})):
            self.assertTrue(statement | Statement({}) == statement and Statement({}) | statement == statement)

    def test_brings_up_to_9(self):
        for number in range(1, 9):
            both = Statement({}, {"a": number}) | Statement({}, {"a": 9 - number})
            self.assertTrue(both == Statement({}, {"a": 9}))
            self.assertEqual(overlap(Statement({}, {"a": number}), Statement({}, {"a": 10 - number})), "a")

    def test_one_may_read_what_the_other_writes(self):
        both = Statement({"a": ["b"]}, {"a": 1}) | Statement({"b": ["a"]}, {"b": 1})
        self.assertTrue(both == Statement({"a": ["b"], "b": ["a"]}, {"a": 1, "b": 1}))

    def test_kinds_that_both_read(self):
        self.assertEqual(overlap(Statement({"a": ["b"]}), Statement({"a": ["c"]})), "a")
        self.assertEqual(overlap(Statement({"a": []}), Statement({"a": []})), "a")

    def test_the_first_kind_in_ascending_order_is_told(self):
        self.assertEqual(overlap(Statement({"c": [], "b": [], "a": []}), Statement({"d": [], "c": [], "b": []})), "b")
        self.assertEqual(overlap(Statement({}, {"c": 5, "b": 9, "a": 1}), Statement({}, {"c": 5, "b": 1, "a": 8})), "b")

    def test_turns_and_brings_are_looked_at_in_one_order(self):
        self.assertEqual(overlap(Statement({"b": []}, {"a": 9}), Statement({"b": []}, {"a": 9})), "a")
        self.assertEqual(overlap(Statement({"a": []}, {"b": 9}), Statement({"a": []}, {"b": 9})), "a")

    def test_what_is_joined_stays(self):
        one, other = Statement({"a": ["b"]}, {"a": 5}), Statement({"b": ["a"]}, {"a": 5})
        self.assertEqual(overlap(one, other), "a")
        three = one | Statement({"c": []}, {"a": 1})
        self.assertTrue(one == Statement({"a": ["b"]}, {"a": 5}) and other == Statement({"b": ["a"]}, {"a": 5}))
        self.assertTrue(three == Statement({"a": ["b"], "c": []}, {"a": 6}))

    def test_with_a_value_of_another_kind(self):
        for other in (None, 0, {}, {"a": []}, ()):
            with self.assertRaises(TypeError):
                Statement({"a": []}) | other

    def test_the_error_is_a_lot_error(self):
        with self.assertRaises(LotError):
            Statement({"a": []}) | Statement({"a": []})


class Wrong(unittest.TestCase):
    def test_keys_that_are_no_names(self):
        for key in ODD_KEYS:
            self.assertIs(bad_kind({key: []}), key)
            self.assertIs(bad_kind({key: ["a"]}), key)
            self.assertIs(bad_kind({}, {key: 1}), key)

    def test_values_that_are_no_lists(self):
        for value in ODD_LISTS:
            self.assertEqual(bad_kind({"a": value}), "a")

    def test_lists_of_what_are_no_names(self):
        for thing in ODD_NAMES:
            for kinds in ([thing], ["b", thing], (thing, "b"), ["b", "c", thing]):
                self.assertEqual(bad_kind({"a": kinds}), "a")

    def test_brings_that_are_no_integers(self):
        for value in ODD_INTEGERS:
            self.assertEqual(bad_kind({}, {"a": value}), "a")

    def test_brings_below_1_and_above_9(self):
        for number in (0, -1, -9, 10, 11, 100, HUGE, -HUGE):
            self.assertEqual(bad_kind({}, {"a": number}), "a")

    def test_the_first_wrong_key_is_told(self):
        self.assertEqual(bad_kind({"a": [], "c": "c", "b": "b"}), "c")
        self.assertEqual(bad_kind({"a": [], "B": [], "c": None}), "B")
        self.assertEqual(bad_kind({}, {"a": 1, "c": 0, "B": 1}), "c")
        self.assertEqual(bad_kind({}, {"a": 1, "B": 1, "c": 0}), "B")

    def test_turns_come_ahead_of_brings(self):
        self.assertEqual(bad_kind({"z": [], "y": None}, {"X": 1}), "y")
        self.assertEqual(bad_kind({"z": []}, {"x": 1, "X": 1}), "X")
        self.assertEqual(bad_kind(brings={"a": None}, turns={"b": None}), "b")

    def test_what_is_no_dict(self):
        for thing in (None, 1, "a", [("a", ["b"])], (("a", 1),), {"a"}, Statement({})):
            self.assertIsNone(bad_kind(thing))
            self.assertIsNone(bad_kind({}, thing))

    def test_the_error_is_a_lot_error(self):
        with self.assertRaises(LotError):
            Statement({"a": None})


class Copies(unittest.TestCase):
    def test_what_was_passed_may_be_changed(self):
        kinds, brings = ["c"], {"d": 1}
        turns = {"b": kinds, "a": []}
        statement = Statement(turns, brings)
        self.assertEqual([list(turns.items()), brings], [[("b", ["c"]), ("a", [])], {"d": 1}])
        kinds.append("a")
        turns["e"] = []
        turns["a"].append("b")
        brings["d"] = 2
        self.assertTrue(statement == Statement({"a": [], "b": ["c"]}, {"d": 1}))
        self.assertEqual(statement.turns(), {"a": (), "b": ("c",)})

    def test_what_is_returned_is_new(self):
        statement = Statement({"a": ["b"], "c": []}, {"d": 1, "e": 2})
        statement.turns()["x"] = ()
        statement.brings().clear()
        statement.reads().append("x")
        statement.writes().append("x")
        self.assertEqual([statement.turns(), statement.brings()], [{"a": ("b",), "c": ()}, {"d": 1, "e": 2}])
        self.assertEqual([statement.reads(), statement.writes()], [["a", "c"], ["b", "d", "e"]])
        self.assertIsInstance(statement.reads(), list)
        self.assertIsInstance(statement.writes(), list)

    def test_a_join_keeps_nothing_of_what_is_returned(self):
        one = Statement({"a": ["b"]})
        both = one | Statement({}, {"c": 1})
        one.turns().clear()
        self.assertTrue(both == Statement({"a": ["b"]}, {"c": 1}))


if __name__ == "__main__":
    unittest.main()
