import unittest

from statementlots.books import Trigger
from statementlots.errors import BadTrigger, LotError
from statementlots.forms import Form
from statementlots.statements import Statement

from odd import HUGE, ODD_INTEGERS, ODD_NAMES, EqualToAll, Hostile

FORM = Form({"old.a": 1, "total": -2}, 3)
DONE = Statement({"open": ["done"]})

# What is no list.
ODD_LISTS = [
    None, True, 0, 1, "", "a", "ab", b"ab", {}, {"a": 1}, set(), {"a"}, frozenset(["a"]), range(2), iter(["a"]),
    object(), EqualToAll(), Hostile(), list, DONE, FORM,
]

ODD_TESTS = ODD_LISTS + [
    (), [], (["a"],), (["a"], 0), (["a"], 0, 1, 2), (0, 1, ["a"]), "abc", ("a", 0, 1), ([], 0, 1), ((), 0, None),
    ({"a"}, 0, 1), ({"a": 1}, 0, 1), (["a", "a"], 0, 1), (["old.a", "b", "old.a"], 0, 1), (["a"], None, 1),
    (["a"], None, None), (["a"], -1, 1), (["a"], 4, 1), (["a"], 0, 4), (["a"], 0, -1), (["a"], 0, HUGE),
    (["a"], HUGE, None), (["a"], "0", None), (["a"], 0, "*"), (["a"], False, 1), (["a"], 0, True), ("a", 0, 1),
    ([["a"]], 0, 1), (["old."], 0, 1), (["now.a"], 0, 1), (["old"], 0, 1, None), (None, 0, 1), (Hostile(), 0, 1),
]

ODD_DEEDS = [thing for thing in ODD_LISTS if not isinstance(thing, Statement)] + [
    "Refuse", "refuse ", "refused", "add", "set", "nothing", "open>done", b"refuse", (), [], ("refuse",), ("add",),
    ("add", "total"), ("add", "total", FORM, FORM), ("add", "total", DONE), ("add", "total", "1 a"),
    ("add", "total", 1), ("add", "total", None), ("add", FORM, "total"), ("Add", "total", FORM), ("sub", "total", FORM),
    ("refuse", "total", FORM), (None, "total", FORM), ("add", None, FORM), ("add", "Total", FORM),
    ("add", "old.total", FORM), ("add", "", FORM), ("add", "totaltotal", FORM), ("set", 1, FORM),
    (EqualToAll(), "total", FORM), (Hostile(), Hostile(), Hostile()), ("set", EqualToAll(), FORM),
    ("set", "total", EqualToAll()), (DONE,), [DONE], (["add"], "total", FORM), ("add", ["total"], FORM), Statement,
]


def made(name="keep", olds=(), news=(), tests=(), deeds=()):
    """Return a trigger that is told something, and otherwise right things."""
    return Trigger(name, olds, news, tests, deeds)


def bad_place(*told, **named):
    """Return what BadTrigger names for a trigger that is told wrong things."""
    try:
        made(*told, **named)
    except BadTrigger as error:
        return error.place
    raise AssertionError("no error was raised")


class Telling(unittest.TestCase):
    def test_properties(self):
        trigger = Trigger("keep", ["open", "done"], ["log", "a", "open"], [(["open", "new.a", "old.a"], 1, 2)],
                          [DONE, ("add", "total", FORM), "refuse"])
        self.assertEqual([trigger.label, trigger.olds, trigger.news],
                         ["keep", ("done", "open"), ("a", "log", "open")])
        self.assertEqual(trigger.tests, ((("new.a", "old.a", "open"), 1, 2),))
        self.assertEqual(trigger.deeds, (DONE, ("add", "total", FORM), "refuse"))

    def test_of_nothing(self):
        trigger = made()
        self.assertEqual([trigger.olds, trigger.news, trigger.tests, trigger.deeds], [(), (), (), ()])

    def test_tuples_stand_for_lists_and_lists_for_tuples(self):
        one = Trigger("keep", ["a"], ["b"], [(["a"], 0, None)], [("set", "n", FORM), DONE])
        other = Trigger("keep", ("a",), ("b",), ([("a",), 0, None],), (["set", "n", FORM], DONE))
        self.assertTrue(one == other)
        for trigger in (one, other):
            self.assertEqual([trigger.olds, trigger.news, trigger.tests], [("a",), ("b",), ((("a",), 0, None),)])
            self.assertEqual(trigger.deeds, (("set", "n", FORM), DONE))

    def test_three_tests_in_their_order(self):
        tests = [(["b"], 3, None), (["a"], 0, 0), (["old.c"], 2, 1)]
        self.assertEqual(made(tests=tests).tests, ((("b",), 3, None), (("a",), 0, 0), (("old.c",), 2, 1)))
        self.assertEqual(len(made(tests=[tests[0]] * 3).tests), 3)

    def test_four_deeds_in_their_order(self):
        deeds = ["refuse", ("set", "n", FORM), Statement({}), DONE]
        self.assertEqual(made(deeds=deeds).deeds, tuple(deeds))
        self.assertEqual(made(deeds=["refuse"] * 4).deeds, ("refuse",) * 4)

    def test_all_bounds(self):
        for least in range(4):
            for most in (0, 1, 2, 3, None):
                self.assertEqual(made(tests=[(["a"], least, most)]).tests, ((("a",), least, most),))

    def test_many_kinds_and_words(self):
        names = [one + other for one in "abcdefgh" for other in "abcdefgh"]
        trigger = made(olds=names[::-1], news=names, tests=[([*names, "old.a", "new.a"], 0, None)])
        self.assertEqual([trigger.olds, trigger.news], [tuple(names), tuple(names)])
        self.assertEqual(trigger.tests[0][0], tuple(sorted([*names, "old.a", "new.a"])))

    def test_names_may_be_the_same(self):
        trigger = Trigger("a", ["a"], ["a"], [(["a", "old.a", "new.a"], 0, 1)], [("add", "a", Form({"a": 1}))])
        self.assertEqual([trigger.label, trigger.olds, trigger.news], ["a", ("a",), ("a",)])

    def test_parameters_by_name(self):
        trigger = Trigger(deeds=["refuse"], tests=[(["a"], 1, 2)], news=["b"], olds=["a"], name="keep")
        self.assertTrue(trigger == Trigger("keep", ["a"], ["b"], [(["a"], 1, 2)], ["refuse"]))
        self.assertTrue(trigger.is_set_off_by(statement=Statement({"a": []})))

    def test_properties_are_not_assigned(self):
        for name in ("label", "olds", "news", "tests", "deeds"):
            with self.assertRaises(AttributeError):
                setattr(made(), name, ())


class SettingOff(unittest.TestCase):
    def test_by_what_is_read(self):
        trigger = made(olds=["a", "b"])
        for statement in (Statement({"a": []}), Statement({"b": ["c"]}), Statement({"c": [], "b": []}, {"d": 1})):
            self.assertIs(trigger.is_set_off_by(statement), True)
        for statement in (Statement({}), Statement({"c": ["a"]}), Statement({}, {"a": 1}), Statement({"c": []})):
            self.assertIs(trigger.is_set_off_by(statement), False)

    def test_by_what_is_written(self):
        trigger = made(news=["a", "b"])
        for statement in (Statement({"c": ["a"]}), Statement({}, {"b": 1}), Statement({"c": ["d", "d", "b"]})):
            self.assertIs(trigger.is_set_off_by(statement), True)
        for statement in (Statement({}), Statement({"a": []}), Statement({"a": ["c"]}, {"c": 1}), Statement({"b": []})):
            self.assertIs(trigger.is_set_off_by(statement), False)

    def test_by_both_or_one(self):
        trigger = made(olds=["a"], news=["b"])
        for statement in (Statement({"a": ["b"]}), Statement({"a": ["c"]}), Statement({"c": ["b"]})):
            self.assertIs(trigger.is_set_off_by(statement), True)
        self.assertIs(trigger.is_set_off_by(Statement({"b": ["a"]}, {"a": 1})), False)

    def test_what_watches_nothing_is_never_set_off(self):
        for statement in (Statement({}), Statement({"a": ["a"]}, {"a": 1})):
            self.assertIs(made(tests=[(["a"], 0, None)]).is_set_off_by(statement), False)


class Equality(unittest.TestCase):
    def test_equal_triggers(self):
        one = Trigger("keep", ["a", "b"], ["c", "d"], [(["a", "old.b"], 1, None)], [("add", "n", Form({"a": 1, "b": 0}))])
        other = Trigger("keep", ("b", "a"), ("d", "c"), ([["old.b", "a"], 1, None],), (["add", "n", Form({"a": 1})],))
        self.assertTrue(one == other and other == one)
        self.assertFalse(one != other or other != one)

    def test_other_triggers(self):
        test, other_test = (["a"], 0, 1), (["b"], 0, 1)
        triggers = [
            made(), made("kept"), made(olds=["a"]), made(olds=["b"]), made(olds=["a", "b"]), made(news=["a"]),
            made(tests=[test]), made(tests=[other_test]), made(tests=[test, other_test]),
            made(tests=[other_test, test]), made(tests=[test, test]), made(tests=[(["a"], 0, None)]),
            made(tests=[(["a"], 1, 1)]), made(tests=[(["a", "b"], 0, 1)]), made(deeds=["refuse"]), made(deeds=[DONE]),
            made(deeds=[DONE, "refuse"]), made(deeds=["refuse", DONE]), made(deeds=[DONE, DONE]),
            made(deeds=[("add", "n", FORM)]), made(deeds=[("set", "n", FORM)]), made(deeds=[("add", "m", FORM)]),
            made(deeds=[("add", "n", Form({}))]), made(deeds=[Statement({})]),
        ]
        for place, one in enumerate(triggers):
            for other in triggers[:place]:
                self.assertTrue(one != other and other != one)
                self.assertFalse(one == other or other == one)

    def test_values_of_other_kinds(self):
        for other in (None, 0, True, "keep", (), [], {}, ("keep", (), (), (), ()), object(), EqualToAll(), Trigger):
            self.assertIs(made() == other, False)
            self.assertIs(made() != other, True)


class Wrong(unittest.TestCase):
    def test_names(self):
        for name in ODD_NAMES:
            self.assertEqual(bad_place(name), "name")

    def test_olds_and_news(self):
        wrong = ODD_LISTS + [[name] for name in ODD_NAMES] + [["a", name] for name in ODD_NAMES] + [
            ["a", "a"], ("a", "b", "a"), [["a"]]]
        for thing in wrong:
            self.assertEqual(bad_place(olds=thing), "olds")
            self.assertEqual(bad_place(news=thing), "news")

    def test_tests(self):
        for thing in ODD_LISTS:
            self.assertEqual(bad_place(tests=thing), "tests")
        for test in ODD_TESTS:
            self.assertEqual(bad_place(tests=[test]), "tests")
            self.assertEqual(bad_place(tests=[(["a"], 0, 1), test]), "tests")
        for thing in ODD_INTEGERS:
            self.assertEqual(bad_place(tests=[(["a"], thing, None)]), "tests")
            if thing is not None:
                self.assertEqual(bad_place(tests=[(["a"], 0, thing)]), "tests")
        for word in ODD_NAMES:
            if not (isinstance(word, str) and word == "old.a"):
                self.assertEqual(bad_place(tests=[([word], 0, 1)]), "tests")
        self.assertEqual(bad_place(tests=[(["a"], 0, 1)] * 4), "tests")

    def test_deeds(self):
        for thing in ODD_LISTS:
            self.assertEqual(bad_place(deeds=thing), "deeds")
        for deed in ODD_DEEDS:
            self.assertEqual(bad_place(deeds=[deed]), "deeds")
            self.assertEqual(bad_place(deeds=["refuse", DONE, deed]), "deeds")
        self.assertEqual(bad_place(deeds=["refuse"] * 5), "deeds")
        self.assertEqual(bad_place(deeds="refuse"), "deeds")

    def test_the_first_wrong_place_is_told(self):
        right = {"name": "keep", "olds": [], "news": [], "tests": [], "deeds": []}
        places = list(right)
        for first, place in enumerate(places):
            told = {**right, **{other: None for other in places[first:]}}
            self.assertEqual(bad_place(**told), place)
            self.assertEqual(bad_place(*told.values()), place)

    def test_the_error_is_a_lot_error(self):
        with self.assertRaises(LotError):
            made(olds=None)


class Copies(unittest.TestCase):
    def test_what_was_passed_may_be_changed(self):
        words, deed = ["b", "a"], ["add", "n", FORM]
        test = [words, 0, 1]
        olds, news, tests, deeds = ["b", "a"], ["d", "c"], [test], [deed]
        trigger = Trigger("keep", olds, news, tests, deeds)
        self.assertEqual([olds, news, words, test, tests], [["b", "a"], ["d", "c"], ["b", "a"], [words, 0, 1], [test]])
        for thing in (olds, news, words, test, deed, tests, deeds):
            thing.append("x")
        self.assertEqual([trigger.olds, trigger.news], [("a", "b"), ("c", "d")])
        self.assertEqual([trigger.tests, trigger.deeds], [((("a", "b"), 0, 1),), (("add", "n", FORM),)])


if __name__ == "__main__":
    unittest.main()
