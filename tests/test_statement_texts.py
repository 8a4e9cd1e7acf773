import itertools
import unittest

from statementlots.errors import BadText, LotError
from statementlots.statements import Statement

from odd import HUGE, EqualToAll, Hostile

# Statements and their texts.
TEXTS = [
    (Statement({}), "nothing"),
    (Statement({"a": []}), "a>"),
    (Statement({"a": ["a"]}), "a>a"),
    (Statement({"open": ["done"]}), "open>done"),
    (Statement({"open": ["done", "log"], "done": []}, {"log": 2}), "done>, open>done log, +log 2"),
    (Statement({"open": ["done", "done", "done"]}), "open>done done done"),
    (Statement({"b": ["c", "a", "b"]}), "b>c a b"),
    (Statement({}, {"a": 1}), "+a 1"),
    (Statement({}, {"abcdefgh": 9}), "+abcdefgh 9"),
    (Statement({}, {"b": 2, "a": 3, "ab": 4}), "+a 3, +ab 4, +b 2"),
    (Statement({"abcdefgh": ["zzzzzzzz"]}), "abcdefgh>zzzzzzzz"),
    (Statement({"b": [], "a": [], "ab": []}), "a>, ab>, b>"),
    (Statement({"nothing": []}), "nothing>"),
    (Statement({"nothing": ["nothing"]}, {"nothing": 1}), "nothing>nothing, +nothing 1"),
    (Statement({"a": []}, {"a": 1}), "a>, +a 1"),
]

NEARLY = [
    # Signs that are lacking, or too many.
    "", " ", ",", ", ", ">", "+", "a", "a b", "open", "Nothing", "nothing ", " nothing", "nothin", "nothing\n", "\n",
    "a>>", "a>>b", "a>b>", "a>b>c", ">a", "a>+b", "+a", "+1", "+a1", "a 1", "a>1", "++a 1", "-a 1", "+a>1", "+a 1>",
    # Other blanks.
    " a>b", "a>b ", "a >b", "a> b", "a> ", "a>b  c", "a>b\nc", "a>b\n", "\na>b", "a>b\tc", "a>b,b>c", "a>b , b>c",
    "a>b,  b>c", "a>b,\nb>c", "a>b;b>c", "a>b, ", ", a>b", "a>b,", ",a>b", "a>b, , b>c", "a>b,, b>c", "a>,",
    "+ a 1", "+a  1", "+a 1 ", " +a 1", "+a\n1", "+a 1\n", "+a 1,+b 1", "+a 1,  +b 1", "+a 1, ", "+a 1 1", "+a b 1",
    # Another order.
    "b>, a>", "b>a, a>b", "ab>, a>", "+b 1, +a 1", "+a 1, a>", "+a 1, b>", "a>, +a 1, b>", "+ab 1, +a 1",
    # A part twice.
    "a>, a>", "a>b, a>b", "a>b, a>c", "a>, b>, a>", "+a 1, +a 1", "+a 1, +a 2", "nothing, nothing",
    # Beside nothing.
    "nothing, a>", "a>, nothing", "nothing, +a 1", "+a 1, nothing", "nothing>, a>",
    # Figures that no text has.
    "+a 0", "+a 00", "+a 01", "+a 09", "+a 10", "+a 11", "+a 99", "+a +1", "+a -1", "+a 1.0", "+a 1e0", "+a x", "+a ",
    "+a 1_0", "+a 12", "+a 23", "+a 123456789", "+a " + "9" * 30, "+a " + "1" * 5000,
    # Names and lists that no statement has.
    "A>", "a>B", "a1>", "a>b1", "abcdefghi>", "a>abcdefghi", "+abcdefghi 1", "+A 1", "+a_b 1", "a_b>", "a.b>",
    "a>b c d e", "a>a a a a", "a>b, b>a a a a",
]

NO_STRINGS = [None, True, False, 0, 1, HUGE, 1.5, b"nothing", b"a>", [], ["nothing"], ["a>"], (), ("a>",), {},
              {"a": []}, {"nothing"}, object(), EqualToAll(), Hostile(), Statement({}), Statement({"a": []}), str]


def bad_line(thing):
    """Return the line that BadText tells for what is no text of a statement, None if it is one."""
    try:
        Statement.parse(thing)
    except BadText as error:
        return error.line
    return None


class Texts(unittest.TestCase):
    def test_texts_of_statements(self):
        for statement, text in TEXTS:
            self.assertEqual(statement.text(), text)

    def test_statements_of_texts(self):
        for statement, text in TEXTS:
            self.assertIsInstance(Statement.parse(text), Statement)
            self.assertTrue(Statement.parse(text) == statement, text)
            self.assertEqual(Statement.parse(text).text(), text)

    def test_by_name_and_off_an_object(self):
        self.assertTrue(Statement.parse(text="a>b") == Statement({"a": ["b"]}))
        self.assertTrue(Statement({}).parse("a>b") == Statement({"a": ["b"]}))

    def test_each_figure(self):
        for number in range(1, 10):
            self.assertTrue(Statement.parse(f"+a {number}") == Statement({}, {"a": number}))

    def test_a_long_text(self):
        letters = "abcdefghijklmnopqrstuvwxyz"
        names = [one + other for one in letters for other in letters]
        statement = Statement({name: [name] * 3 for name in names}, {name: 9 for name in names})
        text = statement.text()
        self.assertTrue(Statement.parse(text) == statement)
        self.assertEqual(bad_line(text + ", +zz 9"), 0)


class Wrong(unittest.TestCase):
    def test_what_is_nearly_a_text(self):
        for text in NEARLY:
            self.assertEqual(bad_line(text), 0, repr(text))

    def test_what_is_no_string(self):
        for thing in NO_STRINGS:
            self.assertEqual(bad_line(thing), 0)

    def test_the_error_is_a_lot_error(self):
        with self.assertRaises(LotError):
            Statement.parse("a")

    def test_one_sign_off_a_text(self):
        for _, text in TEXTS:
            for place in range(len(text) + 1):
                for sign in " \n,>+09Aa.~":
                    self.check(text[:place] + sign + text[place:])
                    self.check(text[:place] + sign + text[place + 1:])
                self.check(text[:place] + text[place + 1:])

    def test_all_short_strings(self):
        for length in range(6):
            for signs in itertools.product("ab>+ ,1", repeat=length):
                self.check("".join(signs))

    def check(self, text):
        """Check that a string is either refused, or the very text of a statement."""
        line = bad_line(text)
        if line is None:
            self.assertEqual(Statement.parse(text).text(), text)
        else:
            self.assertEqual(line, 0)
        self.assertEqual(line is None, is_text(text), repr(text))


def is_text(text):
    """Tell in another way than the package whether a string is the text of a statement."""
    if text == "nothing":
        return True
    turns, brings = [], []
    for part in text.split(", "):
        if part[:1] == "+":
            if brings_wrongly(part):
                return False
            brings.append(part[1:-2])
        else:
            if brings or turns_wrongly(part):
                return False
            turns.append(part.split(">")[0])
    return all(one < other for names in (turns, brings) for one, other in zip(names, names[1:]))


def brings_wrongly(part):
    return not is_kind(part[1:-2]) or part[-2] != " " or part[-1] not in "123456789"


def turns_wrongly(part):
    if part.count(">") != 1:
        return True
    kind, kinds = part.split(">")
    names = kinds.split(" ") if kinds != "" else []
    return not is_kind(kind) or len(names) > 3 or not all(is_kind(name) for name in names)


def is_kind(word):
    return 1 <= len(word) <= 8 and all("a" <= letter <= "z" for letter in word)


if __name__ == "__main__":
    unittest.main()
