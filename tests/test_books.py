import unittest

from statementlots.books import Book, Trigger
from statementlots.errors import BadBook, LotError
from statementlots.forms import Form
from statementlots.statements import Statement

from odd import ODD_NAMES, EqualToAll, Hostile
from samples import BOOKS, adding, bring, falling, filling, full, guarding, logging, turn

ODD_LISTS = [
    None, True, 0, 1, "", "a", "ab", b"ab", {}, {"a": 1}, set(), {"a"}, frozenset(["a"]), range(2), iter(["a"]),
    object(), EqualToAll(), Hostile(), list, Statement({}), Form({}),
]


def trigger(name="keep", olds=(), news=(), tests=(), deeds=()):
    return Trigger(name, olds, news, tests, deeds)


def bad_place(*told, **named):
    """Return what BadBook names for a book that is told wrong things."""
    try:
        Book(*told, **named)
    except BadBook as error:
        return error.place
    raise AssertionError("no error was raised")


class Telling(unittest.TestCase):
    def test_properties(self):
        one, other = trigger("z"), trigger("b")
        book = Book(["open", "done", "a"], ["y", "x"], [one, other])
        self.assertEqual([book.kinds, book.counters], [("a", "done", "open"), ("x", "y")])
        self.assertIsInstance(book.triggers, tuple)
        self.assertTrue(book.triggers == (one, other))

    def test_the_smallest_book(self):
        book = Book(["a"], [], [])
        self.assertEqual([book.kinds, book.counters, book.triggers, book.cap], [("a",), (), (), 1])

    def test_the_largest_book(self):
        book = full()
        self.assertEqual([book.kinds, book.counters], [tuple("abcd"), tuple("xyz")])
        self.assertEqual([each.label for each in book.triggers], ["p", "s", "r", "q"])
        self.assertEqual([len(each.deeds) for each in book.triggers], [4] * 4)

    def test_tuples_stand_for_lists(self):
        self.assertTrue(Book(("b", "a"), ("c",), (trigger(),)) == Book(["a", "b"], ["c"], [trigger()]))

    def test_parameters_by_name(self):
        book = Book(triggers=[trigger()], counters=["b"], kinds=["a"])
        self.assertTrue(book == Book(["a"], ["b"], [trigger()]))

    def test_properties_are_not_assigned(self):
        for name in ("kinds", "counters", "triggers", "cap"):
            with self.assertRaises(AttributeError):
                setattr(adding(), name, ())

    def test_triggers_of_all_names_of_the_book(self):
        deeds = [Statement({"a": ["b"]}, {"c": 1}), ("add", "n", Form({"a": 1, "m": 2, "old.b": 3, "new.c": 4}))]
        book = Book(list("abc"), ["m", "n"], [
            trigger("t", ["a"], ["b"], [(["c", "old.a", "new.b"], 0, 1)], deeds),
            trigger("refuse", [], [], [], [Statement({}), ("set", "m", Form({}, 3)), "refuse"])])
        self.assertEqual(len(book.triggers), 2)

    def test_words_times_0_are_no_words(self):
        book = Book(["a"], ["n"], [trigger(deeds=[("add", "n", Form({"other": 0, "old.n": 0}))])])
        self.assertEqual(len(book.triggers), 1)


class Caps(unittest.TestCase):
    def test_of_no_tests(self):
        self.assertEqual([adding().cap, falling(4).cap, Book(["a"], [], [trigger()]).cap], [1, 1, 1])

    def test_of_one_test(self):
        for least in range(4):
            for most in range(4):
                book = Book(["a"], [], [trigger(tests=[(["a"], least, most)])])
                self.assertEqual(book.cap, 1 + max(least, most))
            self.assertEqual(Book(["a"], [], [trigger(tests=[(["new.a"], least, None)])]).cap, 1 + least)

    def test_of_several_tests_and_triggers(self):
        tests = [(["a"], 0, None), (["a"], 2, 1), (["old.a"], 1, 1)]
        book = Book(["a"], [], [trigger("s"), trigger("t", tests=tests), trigger("u", tests=tests[:1])])
        self.assertEqual(book.cap, 3)
        more = Book(["a"], [], [trigger("t", tests=tests), trigger("u", tests=[(["a"], 0, 3)])])
        self.assertEqual(more.cap, 4)

    def test_of_samples(self):
        self.assertEqual([guarding(0).cap, guarding(2).cap, logging(0).cap, logging(3).cap], [2, 4, 1, 4])
        self.assertEqual([filling(1).cap, filling(4).cap, full().cap], [1, 4, 4])


class Equality(unittest.TestCase):
    def test_equal_books(self):
        one = Book(["b", "a"], ["d", "c"], [trigger("s", ["a", "b"]), trigger("t")])
        other = Book(["a", "b"], ["c", "d"], [trigger("s", ["b", "a"]), trigger("t")])
        self.assertTrue(one == other and other == one)
        self.assertFalse(one != other or other != one)

    def test_other_books(self):
        books = BOOKS + [
            Book(["b"], [], []), Book(["a", "b"], [], []), Book(["a"], ["b"], []), Book(["a"], ["c"], []),
            Book(["a"], [], [trigger("s")]), Book(["a"], [], [trigger("t")]),
            Book(["a"], [], [trigger("s"), trigger("t")]), Book(["a"], [], [trigger("t"), trigger("s")]),
        ]
        for place, one in enumerate(books):
            for other in books[:place]:
                self.assertTrue(one != other and other != one)
                self.assertFalse(one == other or other == one)

    def test_values_of_other_kinds(self):
        for book in (Book(["a"], [], []), adding()):
            for other in (None, 0, True, "", book.text(), (), [], {}, (("a",), (), ()), object(), EqualToAll(), Book):
                self.assertIs(book == other, False)
                self.assertIs(book != other, True)


class Wrong(unittest.TestCase):
    def test_kinds(self):
        for thing in ODD_LISTS + [[], (), list("abcde"), ["a", "a"], ["a", "b", "a"], [["a"]]]:
            self.assertEqual(bad_place(thing, [], []), "kinds")
        for name in ODD_NAMES:
            self.assertEqual(bad_place([name], [], []), "kinds")
            self.assertEqual(bad_place(["a", name], [], []), "kinds")

    def test_counters(self):
        for thing in ODD_LISTS + [list("bcde"), ["b", "b"], ["b", "c", "b"], [["b"]]]:
            self.assertEqual(bad_place(["a"], thing, []), "counters")
        for name in ODD_NAMES:
            self.assertEqual(bad_place(["a"], [name], []), "counters")
            self.assertEqual(bad_place(["a"], ["b", name], []), "counters")

    def test_triggers(self):
        for thing in ODD_LISTS + [trigger(), [trigger(name) for name in "stuvw"]]:
            self.assertEqual(bad_place(["a"], [], thing), "triggers")
        for thing in ODD_LISTS + ["keep", ("keep", [], [], [], []), adding(), Trigger, []]:
            self.assertEqual(bad_place(["a"], [], [thing]), "triggers")
            self.assertEqual(bad_place(["a"], [], [trigger(), thing]), "triggers")

    def test_names_that_are_the_same(self):
        self.assertEqual(bad_place(["a", "b"], ["c", "b"], []), "names")
        self.assertEqual(bad_place(["a"], [], [trigger("a")]), "names")
        self.assertEqual(bad_place(["a"], ["b"], [trigger("b")]), "names")
        self.assertEqual(bad_place(["a"], [], [trigger("t"), trigger("s"), trigger("t")]), "names")
        self.assertEqual(bad_place(["a"], [], [trigger("t")] * 2), "names")

    def test_names_that_the_book_lacks(self):
        lacking = [
            trigger(olds=["a", "x"]), trigger(news=["a", "x"]), trigger(tests=[(["a", "x"], 0, 1)]),
            trigger(tests=[(["a"], 0, 1), (["old.x"], 0, 1)]), trigger(tests=[(["new.x"], 0, 1)]),
            trigger(deeds=[turn("x")]), trigger(deeds=[turn("a", "a", "x")]), trigger(deeds=[bring("x")]),
            trigger(deeds=["refuse", turn("a"), bring("x")]), trigger(deeds=[("add", "x", Form({}))]),
            trigger(deeds=[("set", "x", Form({}))]), trigger(deeds=[("add", "n", Form({"x": 1}))]),
            trigger(deeds=[("add", "n", Form({"old.x": 1}))]), trigger(deeds=[("set", "n", Form({"a": 1, "new.x": 1}))]),
        ]
        for one in lacking:
            self.assertEqual(bad_place(["a"], ["n"], [one]), "names")
            self.assertEqual(bad_place(["a"], ["n"], [trigger("s"), one]), "names")
            self.assertEqual(bad_place(["a"], ["n"], [trigger("x"), one]), "names")

    def test_a_counter_is_no_kind_and_a_kind_no_counter(self):
        confused = [
            trigger(olds=["n"]), trigger(news=["n"]), trigger(tests=[(["n"], 0, 1)]),
            trigger(tests=[(["old.n"], 0, 1)]), trigger(tests=[(["new.n"], 0, 1)]), trigger(deeds=[turn("n")]),
            trigger(deeds=[turn("a", "n")]), trigger(deeds=[bring("n")]), trigger(deeds=[("add", "a", Form({}))]),
            trigger(deeds=[("set", "a", Form({}))]), trigger(deeds=[("add", "n", Form({"old.n": 1}))]),
            trigger(deeds=[("add", "n", Form({"new.n": 1}))]), trigger(deeds=[("add", "n", Form({"keep": 1}))]),
            trigger(tests=[(["n"], 0, 1)], deeds=[("add", "n", Form({"n": 1}))]),
        ]
        for one in confused:
            self.assertEqual(bad_place(["a"], ["n"], [one]), "names")

    def test_the_first_wrong_place_is_told(self):
        self.assertEqual(bad_place(None, None, None), "kinds")
        self.assertEqual(bad_place(["a"], None, None), "counters")
        self.assertEqual(bad_place(["a"], ["a"], None), "triggers")
        self.assertEqual(bad_place(["a"], ["a"], [trigger(olds=["b"])]), "names")
        self.assertEqual(bad_place(triggers=None, counters=["a", "a"], kinds=["a"]), "counters")
        self.assertEqual(bad_place(list("abcde"), list("abcd"), [trigger()] * 5), "kinds")

    def test_the_error_is_a_lot_error(self):
        with self.assertRaises(LotError):
            Book([], [], [])


class Copies(unittest.TestCase):
    def test_what_was_passed_may_be_changed(self):
        kinds, counters, triggers = ["b", "a"], ["d", "c"], [trigger()]
        book = Book(kinds, counters, triggers)
        self.assertEqual([kinds, counters, len(triggers)], [["b", "a"], ["d", "c"], 1])
        kinds.append("x")
        counters.clear()
        triggers.append(trigger("x"))
        self.assertEqual([book.kinds, book.counters, len(book.triggers)], [("a", "b"), ("c", "d"), 1])
        self.assertTrue(book == Book(["a", "b"], ["c", "d"], [trigger()]))


if __name__ == "__main__":
    unittest.main()
