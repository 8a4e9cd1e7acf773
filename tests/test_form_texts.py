import random
import unittest

from statementlots.errors import BadText, LotError
from statementlots.forms import Form

from odd import HUGE, EqualToAll, Hostile

LONG = 123456789012345678901234567890

# Forms and their texts.
TEXTS = [
    (Form({}), "0"),
    (Form({}, 3), "3"),
    (Form({}, -3), "-3"),
    (Form({"a": 1}), "1 a"),
    (Form({"a": -1}), "-1 a"),
    (Form({"a": 0}), "0"),
    (Form({"a": 0, "b": 1}), "1 b"),
    (Form({"a": 1}, 0), "1 a"),
    (Form({"a": 1}, -1), "1 a + -1"),
    (Form({"new.open": 1, "old.open": -1}, 3), "1 new.open + -1 old.open + 3"),
    (Form({"old.open": -1, "new.open": 1, "total": 20, "done": 300}), "300 done + 1 new.open + -1 old.open + 20 total"),
    (Form({"older": 1, "old.z": 2, "old": 3, "olc": 4}), "4 olc + 3 old + 2 old.z + 1 older"),
    (Form({"abcdefgh": 1, "old.abcdefgh": 1}), "1 abcdefgh + 1 old.abcdefgh"),
    (Form({"a": LONG, "b": -LONG}, -LONG), f"{LONG} a + -{LONG} b + -{LONG}"),
    (Form({"a": 10 ** 30, "b": 10 ** 29}, 10 ** 30), f"{10 ** 30} a + {10 ** 29} b + {10 ** 30}"),
    (Form({"old.old": 1, "new.new": 1}), "1 new.new + 1 old.old"),
    (Form({"a": 10 ** 64, "b": 10 ** 64 - 1}, -10 ** 128), f"{10 ** 64} a + {10 ** 64 - 1} b + -{10 ** 128}"),
]

NEARLY = [
    "", " ", "\n", "+", " + ", "-", "a", "1a", "1 ", " 1", "1 1", "a 1", "a b", "nothing", "zero", "None", "1.0", "1e1",
    # Figures that no text has.
    "00", "01", "-0", "+1", "--1", "- 1", "0x1", "1_0", "1,000", "-01", "00 a", "01 a", "-0 a", "+1 a", "--1 a", "- a",
    "1_0 a", "-01 a", "a1 a", "1a a", "0 a", "0 a + 1 b", "1 b + 0 a", "\u0663", "\u0663 a", "\u00b2", "1 a + \u0663",
    "1 a + 0", "1 a + 00", "1 a + -0", "0 + 0", "0 + 1", "1 + 0", "1 + 1", "1 + 2", "a + 1", "x + 3", "1 a + x",
    # Words that are none.
    "1 A", "1 abcdefghi", "1 old.", "1 new.", "1 old.A", "1 now.a", "1 old.new.a", "1 a.b", "1 1", "1 a1",
    # Other blanks.
    "1  a", " 1 a", "1 a ", "1 a\n", "\n1 a", "1\na", "1\ta", "1 a+1 b", "1 a +1 b", "1 a+ 1 b", "1 a  + 1 b",
    "1 a +  1 b", "1 a + ", " + 1 a", "1 a + + 1 b", "1 a + 1 b + ", "1 a +", "+ 1 a", "1 a\n+ 1 b", "1 a - 1 b",
    "1 a, 1 b", "1 a 1 b", "1 a b", "1 a + 1  ", "1 a + 1 b 1",
    # Another order, or a word twice.
    "1 b + 1 a", "3 + 1 a", "1 a + 3 + 1 b", "1 old.a + 1 new.a", "1 older + 1 old.z", "1 a + 1 a", "1 a + 2 a",
    "1 a + -1 a", "1 a + 1 + 1", "1 a + 1 b + 1 a", "3 + 3",
]


def bad_line(text):
    """Return the line that BadText names for what is no text of a form."""
    try:
        Form.parse(text)
    except BadText as error:
        return error.line
    raise AssertionError((text, "no error was raised"))


class Texts(unittest.TestCase):
    def test_texts(self):
        for form, text in TEXTS:
            self.assertEqual(form.text(), text)

    def test_forms_of_texts(self):
        for form, text in TEXTS:
            self.assertTrue(Form.parse(text) == form, text)
            self.assertIsInstance(Form.parse(text), Form)

    def test_parameter_by_name(self):
        self.assertTrue(Form.parse(text="1 a + 2") == Form({"a": 1}, 2))

    def test_what_is_nearly_a_text(self):
        for text in NEARLY:
            self.assertEqual(bad_line(text), 0, text)

    def test_what_is_no_string(self):
        for thing in (None, 0, 1, True, b"0", b"1 a", [], ["1 a"], (), {}, {"a": 1}, Form({}), EqualToAll(), Hostile(),
                      HUGE, str):
            self.assertEqual(bad_line(thing), 0)

    def test_the_error_is_a_lot_error(self):
        with self.assertRaises(LotError):
            Form.parse("a")

    def test_there_and_back(self):
        chance = random.Random(5)
        words = ["a", "b", "ab", "old", "old.a", "new.b", "new.ab", "older"]
        for _ in range(300):
            size = chance.choice([3, 10, 10 ** 30])
            parts = {word: chance.randint(-size, size) for word in chance.sample(words, chance.randint(0, 5))}
            form = Form(parts, chance.choice([0, chance.randint(-size, size)]))
            self.assertTrue(Form.parse(form.text()) == form, form.text())

    def test_a_text_with_one_sign_changed_is_the_text_of_its_form_or_of_none(self):
        chance = random.Random(6)
        for _ in range(3000):
            text = list(chance.choice(TEXTS)[1])
            place = chance.randrange(len(text))
            text[place:place + chance.randint(0, 1)] = chance.choice(["", " ", "+", "-", "0", "1", "a", "b", ".", "\n"])
            changed = "".join(text)
            try:
                self.assertEqual(Form.parse(changed).text(), changed)
            except BadText as error:
                self.assertEqual(error.line, 0)

    def test_integers_of_many_thousand_figures(self):
        for number, figures in ((HUGE, "1" + "0" * 6000), (-HUGE, "-1" + "0" * 6000), (HUGE - 1, "9" * 6000)):
            self.assertTrue(Form({"a": number}).text() == figures + " a")
            self.assertTrue(Form.parse(figures) == Form({}, number))
        self.assertEqual([bad_line("0" + "1" * 6000), bad_line("1" * 6000 + "x")], [0, 0])


if __name__ == "__main__":
    unittest.main()
