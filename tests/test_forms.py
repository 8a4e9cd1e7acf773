import random
import unittest

from statementlots.errors import BadForm, BadNumber, LotError
from statementlots.forms import Form

from odd import HUGE, ODD_INTEGERS, ODD_KEYS, EqualToAll

WORDS = ["a", "z", "abcdefgh", "old", "new", "older", "old.a", "new.a", "old.old", "new.abcdefgh", "total", "nothing"]

# What is hashable, and no word.
ODD_WORDS = [thing for thing in ODD_KEYS if not (isinstance(thing, str) and thing == "old.a")] + [
    "old.", "new.", "Old.a", "OLD.a", "now.a", "old a", "old.a ", " old.a", "old.a\n", "old..a", "old.new.a",
    "old.abcdefghi", "old.A", "old.1", "a.b", ".a", ".", "olda.", "new.old.", "old.a.b", "old:a", "older.a",
    "old." + "a" * 100000,
]


def bad_word(*told, **named):
    """Return what BadForm names for a form that is told wrong things."""
    try:
        Form(*told, **named)
    except BadForm as error:
        return error.word
    raise AssertionError("no error was raised")


def bad_number(*told, **named):
    """Return what BadNumber names for a form that is told wrong things."""
    try:
        Form(*told, **named)
    except BadNumber as error:
        return error.number
    raise AssertionError("no error was raised")


class Telling(unittest.TestCase):
    def test_parts_have_ascending_words(self):
        form = Form({"open": 3, "old.open": -1, "new.a": 2, "done": 1, "older": 5, "old.a": 7}, 4)
        self.assertEqual(list(form.parts().items()), [
            ("done", 1), ("new.a", 2), ("old.a", 7), ("old.open", -1), ("older", 5), ("open", 3)])
        self.assertEqual(form.integer, 4)
        self.assertIsInstance(form.parts(), dict)

    def test_all_words(self):
        for word in WORDS:
            self.assertEqual(Form({word: 2}).parts(), {word: 2})

    def test_parts_with_0_are_left_out(self):
        form = Form({"a": 0, "b": 1, "old.c": 0})
        self.assertEqual(form.parts(), {"b": 1})
        self.assertEqual([Form({"a": 0}).parts(), Form({}).parts()], [{}, {}])

    def test_the_number_is_0_where_it_is_not_told(self):
        self.assertEqual([Form({}).integer, Form({"a": 5}).integer], [0, 0])

    def test_numbers_have_no_bound(self):
        form = Form({"a": HUGE, "b": -HUGE}, HUGE + 1)
        self.assertTrue(form.parts() == {"a": HUGE, "b": -HUGE} and form.integer == HUGE + 1)
        self.assertTrue((form * HUGE).parts()["b"] == -HUGE * HUGE)

    def test_parameters_by_name(self):
        form = Form(number=3, parts={"a": 2})
        self.assertTrue(form == Form({"a": 2}, 3))
        self.assertEqual(form.of(worths={"a": 5}), 13)

    def test_the_number_is_not_assigned(self):
        with self.assertRaises(AttributeError):
            Form({}).integer = 3


class Equality(unittest.TestCase):
    def test_equal_forms(self):
        pairs = [
            (Form({}), Form({}, 0)),
            (Form({"a": 1, "old.b": -2}, 3), Form({"old.b": -2, "a": 1}, 3)),
            (Form({"a": 0, "b": 1}), Form({"b": 1})),
            (Form({"a": 0}, 10 ** 30), Form({}, 10 ** 30)),
        ]
        for one, other in pairs:
            self.assertTrue(one == other and other == one and one == one)
            self.assertFalse(one != other or other != one)

    def test_other_forms(self):
        forms = [
            Form({}), Form({}, 1), Form({}, -1), Form({"a": 1}), Form({"a": -1}), Form({"a": 2}), Form({"b": 1}),
            Form({"old.a": 1}), Form({"new.a": 1}), Form({"a": 1}, 1), Form({"a": 1, "b": 1}),
        ]
        for place, one in enumerate(forms):
            for other in forms[:place]:
                self.assertTrue(one != other and other != one)
                self.assertFalse(one == other or other == one)

    def test_values_of_other_kinds(self):
        for form in (Form({}), Form({"a": 1}), Form({}, 1)):
            for other in (None, 0, 1, True, "", "0", "1 a", {}, {"a": 1}, (), ({}, 0), [], object(), EqualToAll(), Form):
                self.assertIs(form == other, False)
                self.assertIs(form != other, True)


class Counting(unittest.TestCase):
    def test_sums(self):
        both = Form({"a": 1, "b": 2}, 3) + Form({"b": -2, "old.c": 4}, 5)
        self.assertTrue(both == Form({"a": 1, "old.c": 4}, 8))
        self.assertEqual(list(both.parts()), ["a", "old.c"])

    def test_differences(self):
        less = Form({"a": 1, "b": 2}, 3) - Form({"b": 2, "a": 3, "new.c": -4}, 5)
        self.assertTrue(less == Form({"a": -2, "new.c": 4}, -2))
        self.assertTrue(less - less == Form({}))

    def test_multiples(self):
        form = Form({"a": 2, "old.b": -3}, 5)
        self.assertTrue(form * -2 == Form({"a": -4, "old.b": 6}, -10))
        self.assertTrue(form * 1 == form and form * 0 == Form({}))
        self.assertTrue(form * 10 ** 30 == Form({"a": 2 * 10 ** 30, "old.b": -3 * 10 ** 30}, 5 * 10 ** 30))

    def test_the_words_of_a_sum_ascend(self):
        both = Form({"c": 1, "a": 1}) + Form({"b": 1, "old.a": 1})
        self.assertEqual(list(both.parts()), ["a", "b", "c", "old.a"])

    def test_what_is_counted_with_stays(self):
        one, other = Form({"a": 1}, 2), Form({"a": 3, "b": 4}, 5)
        for _ in (one + other, one - other, one * 7):
            self.assertTrue(one == Form({"a": 1}, 2) and other == Form({"a": 3, "b": 4}, 5))

    def test_with_values_of_other_kinds(self):
        form = Form({"a": 1})
        for other in (None, "a", {}, (), 1.5, EqualToAll()):
            for count in (lambda: form + other, lambda: form - other, lambda: form * other):
                with self.assertRaises(TypeError):
                    count()
        for count in (lambda: form + 1, lambda: form - 1, lambda: form * form):
            with self.assertRaises(TypeError):
                count()

    def test_worths_of_sums_differences_and_multiples(self):
        chance = random.Random(3)
        words = ["a", "b", "old.a", "new.b"]
        for _ in range(100):
            one, other = [Form({word: chance.randint(-3, 3) for word in chance.sample(words, 3)}, chance.randint(-3, 3))
                          for _ in range(2)]
            worths = {word: chance.randint(-9, 9) for word in words}
            self.assertEqual((one + other).of(worths), one.of(worths) + other.of(worths))
            self.assertEqual((one - other).of(worths), one.of(worths) - other.of(worths))
            self.assertEqual((one * -7).of(worths), one.of(worths) * -7)


class Worths(unittest.TestCase):
    def test_the_worth_is_the_sum(self):
        form = Form({"a": 2, "old.a": -3, "new.b": 1}, 10)
        self.assertEqual(form.of({"a": 5, "old.a": 7, "new.b": -4}), 10 - 21 - 4 + 10)

    def test_words_that_are_lacking_have_0(self):
        form = Form({"a": 2, "old.a": -3}, 10)
        self.assertEqual([form.of({}), form.of({"a": 1}), form.of({"old.a": 1})], [10, 12, 7])
        self.assertEqual(Form({}).of({"a": 1}), 0)

    def test_other_words_do_not_matter(self):
        self.assertEqual(Form({"a": 2}, 1).of({"a": 3, "b": 100, "old.a": 100}), 7)

    def test_worths_have_no_bound(self):
        self.assertTrue(Form({"a": HUGE, "b": -1}).of({"a": HUGE, "b": HUGE}) == HUGE * HUGE - HUGE)

    def test_the_dict_is_not_changed(self):
        worths = {"b": 1, "a": 2}
        Form({"a": 1, "c": 1}).of(worths)
        self.assertEqual(list(worths.items()), [("b", 1), ("a", 2)])


class Wrong(unittest.TestCase):
    def test_keys_that_are_no_words(self):
        for word in ODD_WORDS:
            self.assertIs(bad_word({word: 1}), word)
            self.assertIs(bad_word({"a": 1, word: 0, "B": 1}), word)

    def test_values_that_are_no_integers(self):
        for value in ODD_INTEGERS:
            self.assertEqual(bad_word({"a": value}), "a")
            self.assertEqual(bad_word({"b": 1, "old.a": value, "new.a": value}), "old.a")

    def test_the_first_wrong_key_is_told(self):
        self.assertEqual(bad_word({"a": 1, "c": None, "b": None}), "c")
        self.assertEqual(bad_word({"a": 1, "B": 1, "b": None}), "B")
        self.assertEqual(bad_word({"b": True, "B": 1}), "b")

    def test_what_is_no_dict(self):
        for thing in (None, 0, 1, True, "a", "", (), [], [("a", 1)], {"a"}, set(), Form({}), object(), EqualToAll()):
            self.assertIsNone(bad_word(thing))

    def test_numbers_that_are_no_integers(self):
        for value in ODD_INTEGERS:
            self.assertIs(bad_number({}, value), value)
            self.assertIs(bad_number({"a": 1}, number=value), value)

    def test_parts_come_ahead_of_the_number(self):
        self.assertEqual(bad_word({"a": 1, "B": 1}, None), "B")
        self.assertIsNone(bad_word(None, None))
        self.assertEqual(bad_word(number="1", parts={"a": "1"}), "a")

    def test_the_errors_are_lot_errors(self):
        with self.assertRaises(LotError):
            Form({"a": None})
        with self.assertRaises(LotError):
            Form({}, None)


class Copies(unittest.TestCase):
    def test_what_was_passed_may_be_changed(self):
        parts = {"b": 1, "a": 0}
        form = Form(parts)
        self.assertEqual(list(parts.items()), [("b", 1), ("a", 0)])
        parts["b"] = 5
        parts["c"] = 5
        self.assertTrue(form == Form({"b": 1}))

    def test_what_is_returned_is_new(self):
        form = Form({"a": 1, "b": 2})
        form.parts()["c"] = 3
        form.parts().clear()
        self.assertEqual(form.parts(), {"a": 1, "b": 2})


if __name__ == "__main__":
    unittest.main()
