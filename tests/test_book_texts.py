import random
import re
import unittest

from statementlots.books import Book, Trigger
from statementlots.errors import BadBook, BadText, LotError
from statementlots.forms import Form
from statementlots.statements import Statement

from samples import BOOKS, adding, falling, full, guarding, logging, ringing, wordy

NAME = "[a-z]{1,8}"
WORD = f"(?:old[.]|new[.])?{NAME}"
INTEGER = "(?:0|-?[1-9][0-9]*)"
STATEMENT_PART = f"(?:{NAME}>(?:{NAME}(?: {NAME}){{0,2}})?|[+]{NAME} [1-9])"

FULL_TEXT = """\
kinds a b c d
counters x y z
trigger p
olds a b c d
news a b c d
test 0 3 a new.a old.d
test 3 * b
test 2 1 old.c
do a>b c d, d>, +a 9
add x 3 c + -2 new.b + 1 old.a + 100000000000000000000000000000 x + -1 z + 100000000000000000000000000000
set y 3 c + -2 new.b + 1 old.a + 100000000000000000000000000000 x + -1 z + 100000000000000000000000000000
refuse"""

WORDY_TEXT = """\
kinds kinds news old olds
counters add do set
trigger trigger
olds old olds
news kinds news
test 0 3 kinds new.olds old.old
test 2 * old
add add 1 old + -2 old.old + 3 set + 4
set set 0
refuse
do old>kinds olds, +news 9
trigger nothing
olds
news
do nothing
trigger refuse
olds old
news
trigger test
olds
news old
test 1 1 news
test 1 1 news
test 1 1 news
refuse
refuse
refuse
refuse"""


def bad_line(text):
    """Return the line that BadText names for what is no text of a book."""
    try:
        Book.parse(text)
    except BadText as error:
        return error.line
    raise AssertionError((text, "no error was raised"))


def ascend(names):
    return all(one < other for one, other in zip(names, names[1:]))


def is_statement(text):
    """Tell, from the words of the document alone, whether a statement has a text."""
    if text == "nothing":
        return True
    if not re.fullmatch(f"{STATEMENT_PART}(?:, {STATEMENT_PART})*", text):
        return False
    parts = text.split(", ")
    turns = [part.split(">")[0] for part in parts if not part.startswith("+")]
    brings = [part.split(" ")[0] for part in parts if part.startswith("+")]
    return ascend(turns) and ascend(brings) and not any(part.startswith("+") for part in parts[:len(turns)])


def is_form(text):
    """Tell, from the words of the document alone, whether a form has a text."""
    if re.fullmatch(INTEGER, text):
        return True
    part = f"{INTEGER} {WORD}"
    if not re.fullmatch(f"{part}(?: [+] {part})*(?: [+] {INTEGER})?", text):
        return False
    parts = text.split(" + ")
    words = [one.split(" ")[1] for one in parts if " " in one]
    return ascend(words) and not any(re.match("0", one) for one in parts)


def kind_of_line(line):
    """Return what a line is the line of, from the words of the document alone; None if it is that of nothing."""
    for head, most in (("kinds", 4), ("counters", 3), ("trigger", 1), ("olds", 1000), ("news", 1000)):
        if re.fullmatch(f"{head}(?: {NAME})*", line):
            names = line.split(" ")[1:]
            least = 1 if head in ("kinds", "trigger") else 0
            return head if ascend(names) and least <= len(names) <= most else None
    if re.fullmatch(f"test [0-3] [0-3*](?: {WORD})+", line):
        return "test" if ascend(line.split(" ")[3:]) else None
    if line == "refuse" or (line.startswith("do ") and is_statement(line[3:])):
        return "deed"
    if re.match(f"(?:add|set) {NAME} ", line):
        return "deed" if is_form(line.split(" ", 2)[2]) else None
    return None


def first_wrong_line(text):
    """Return the number of the first line that cannot stand where it stands, None if all can and none is lacking."""
    many = {"test": 0, "deed": 0, "trigger": 0}
    following = {
        "start": ["kinds"], "kinds": ["counters"], "counters": ["trigger"], "trigger": ["olds"], "olds": ["news"],
        "news": ["test", "deed", "trigger"], "test": ["test", "deed", "trigger"], "deed": ["deed", "trigger"],
    }
    before = "start"
    lines = text.split("\n")
    for number, line in enumerate(lines, 1):
        found = kind_of_line(line)
        if found not in following[before]:
            return number
        if found == "trigger":
            many["test"] = many["deed"] = 0
        if found in many:
            many[found] += 1
            if many[found] > {"test": 3, "deed": 4, "trigger": 4}[found]:
                return number
        before = found
    return len(lines) + 1 if before in ("kinds", "trigger", "olds") else None


class Texts(unittest.TestCase):
    def test_the_smallest_and_the_largest(self):
        self.assertEqual(Book(["a"], [], []).text(), "kinds a\ncounters")
        self.assertEqual(Book(["d", "b", "a", "c"], ["z", "x", "y"], []).text(), "kinds a b c d\ncounters x y z")
        lines = FULL_TEXT.split("\n")
        triggers = [["trigger " + name, *lines[3:]] for name in "psrq"]
        self.assertEqual(full().text(), "\n".join(lines[:2] + [line for trigger in triggers for line in trigger]))

    def test_names_that_are_words_of_texts(self):
        self.assertEqual(wordy().text(), WORDY_TEXT)
        self.assertTrue(Book.parse(WORDY_TEXT) == wordy())

    def test_of_samples(self):
        form = "1 new.done + 1 new.open + -1 old.done + -1 old.open"
        self.assertEqual(adding().text(), "kinds done open\ncounters total\ntrigger keep\nolds done open\n"
                         f"news done open\nadd total {form}")
        self.assertEqual(guarding(2).text(), "kinds done open\ncounters\ntrigger guard\nolds\nnews open\n"
                         "test 3 * open\nrefuse")
        self.assertEqual(logging(1).text(), "kinds done log open\ncounters\ntrigger note\nolds done open\n"
                         "news done open\ntest 1 * new.done new.open\ndo +log 1")
        self.assertEqual(ringing().text(), "kinds a b\ncounters\ntrigger to\nolds\nnews a\ndo a>b\ntrigger fro\nolds\n"
                         "news b\ndo b>a")
        self.assertEqual(falling(0).text(), "kinds a b c d\ncounters\ntrigger falla\nolds\nnews a\ntrigger fallb\nolds\n"
                         "news b\ntrigger fallc\nolds\nnews c")

    def test_there_and_back(self):
        for book in BOOKS:
            self.assertTrue(Book.parse(book.text()) == book, book.text())
            self.assertIsInstance(Book.parse(book.text()), Book)
            self.assertEqual(Book.parse(book.text()).text(), book.text())

    def test_parameter_by_name(self):
        self.assertTrue(Book.parse(text="kinds a\ncounters") == Book(["a"], [], []))

    def test_integers_of_many_figures(self):
        number = 123456789012345678901234567890
        book = Book(["a"], ["n"], [Trigger("t", [], [], [], [("add", "n", Form({"a": -number}, number))])])
        self.assertEqual(book.text().split("\n")[-1], f"add n -{number} a + {number}")
        self.assertTrue(Book.parse(book.text()) == book)

    def test_olds_and_news_of_many_names(self):
        names = [one + other for one in "abc" for other in "abc"]
        text = "\n".join(["kinds a", "counters", "trigger t", "olds " + " ".join(names), "news"])
        with self.assertRaises(BadBook):
            Book.parse(text)


class WrongLines(unittest.TestCase):
    def check(self, number, *lines):
        self.assertEqual(bad_line("\n".join(lines)), number, lines)

    def test_what_is_no_text_at_all(self):
        for text in ("", " ", "\n", "\n\n", "nothing", "0", "a", "Kinds a\ncounters", "kinds  a", "kindsa", "KINDS a"):
            self.assertEqual(bad_line(text), 1)
        for thing in (None, 1, b"kinds a\ncounters", ["kinds a", "counters"], {}, adding()):
            self.assertEqual(bad_line(thing), 1)

    def test_kinds(self):
        for line in ("kinds", "kinds ", "kinds b a", "kinds a a", "kinds a b c d e", "kinds A", "kinds a  b", "kinds a ",
                     " kinds a", "kinds abcdefghi", "kind a", "counters a", "kinds a, b", "kinds\ta", "kinds old.a"):
            self.check(1, line, "counters")

    def test_counters(self):
        for line in ("", "counters ", "counters b a", "counters b b", "counters b c d e", "counters B", "counter b",
                     "kinds a", "trigger t", " counters", "counters b  c", "counters b ", "refuse"):
            self.check(2, "kinds a", line)
            self.check(2, "kinds a", line, "anything", "")

    def test_lines_that_are_lacking(self):
        lines = WORDY_TEXT.split("\n")
        for many in range(1, len(lines)):
            head = lines[many - 1].split(" ")[0]
            if head in ("kinds", "trigger", "olds"):
                self.check(many + 1, *lines[:many])
            else:
                self.assertTrue(isinstance(Book.parse("\n".join(lines[:many])), Book))

    def test_an_empty_line_behind_the_last_one(self):
        for book in BOOKS:
            lines = book.text().split("\n")
            self.check(len(lines) + 1, *lines, "")
            self.check(len(lines) + 1, *lines, "", "")
            self.check(1, "", *lines)

    def test_heads_of_triggers(self):
        start = ["kinds a b", "counters n"]
        for line in ("trigger", "trigger ", "trigger t t", "trigger s t", "trigger T", "Trigger t", "trigger  t", "olds",
                     "trigger t ", "refuse", "test 0 1 a", "do nothing", "counters n", "kinds a b", "add n 1"):
            self.check(3, *start, line, "olds", "news")
        for line in ("", "news", "olds ", "olds b a", "olds a a", "olds A", "olds old.a", "refuse", "test 0 1 a", "old a"):
            self.check(4, *start, "trigger t", line, "news")
        for line in ("", "olds", "news ", "news b a", "news b b", "news A", "new a", "refuse", "trigger s", "news new.a"):
            self.check(5, *start, "trigger t", "olds", line)

    def test_tests(self):
        start = ["kinds a b", "counters n", "trigger t", "olds", "news"]
        for line in ("test", "test ", "test 0", "test 0 1", "test 0 1 ", "test 0 1 b a", "test 0 1 a a", "test 4 5 a",
                     "test 0 4 a", "test * 1 a", "test -1 1 a", "test 0 -1 a", "test 00 1 a", "test 0 01 a", "test 01 2 a",
                     "test 12 * a", "test 0 ** a", "test 0 None a", "test 0 1 A", "test 0 1 old.", "test 0 1 a  b",
                     "test  0 1 a", "test 0  1 a", "test 0 1  a", "test 0 1 a ", " test 0 1 a", "test a 0 1", "test 0 a 1",
                     "test 0 1 old.a new.a", "test 0 1 a, b", "test +1 2 a", "tests 0 1 a", "test 0 1 1 a", "Test 0 1 a",
                     "test 01 a", "test 0 12 a", "test 0 1 a\t", "test 0 1 a.b", "test  1 a", "test 0  a"):
            self.check(6, *start, line)
            self.check(7, *start, "test 0 1 a", line, "refuse")
            self.check(7, *start, "refuse", line)

    def test_deeds(self):
        start = ["kinds a b", "counters n", "trigger t", "olds", "news"]
        for line in ("", " ", "refuse ", " refuse", "Refuse", "refuse refuse", "refused", "do", "do ", "do  nothing",
                     "do nothing ", "nothing", "do a", "do b>, a>", "do a> b", "do +a 0", "do +a 10", "do a>a a a a",
                     "do a>,b>", "do refuse", "Do nothing", "a>b", "add", "add ", "add n", "add n ", "add n  1", "add  n 1",
                     "add n 1 ", "add 1", "add N 1", "add n 01", "add n -0", "add n 0 a", "add n 1 b + 1 a", "add n a",
                     "add n 1 a + 0", "add n 1 a + 1 a", "add n 3 + 1 a", "add old.a 1", "add n n 1", "add n +1", "sub n 1",
                     "set", "set n", "set n ", "set n 00", "set n x", "set n 1 A", "set n 1 a +", "Set n 1", "set n do a>",
                     "test", "news", "olds a", "kinds a b", "counters n", "trigger"):
            self.check(6, *start, line)
            self.check(8, *start, "test 0 1 a", "refuse", line, "refuse")

    def test_more_than_there_may_be(self):
        start = ["kinds a", "counters n", "trigger t", "olds", "news"]
        tests, deeds = ["test 0 1 a"] * 3, ["refuse", "do nothing", "add n 1", "set n 1"]
        self.check(9, *start, *tests, "test 0 1 a")
        self.check(9, *start, *tests, "test 0 1 a", *deeds)
        for deed in deeds:
            self.check(10, *start, *deeds, deed)
            self.check(13, *start, *tests, *deeds, deed, "")
        self.check(10, *start, *deeds, "test 0 1 a")
        four = [line for name in "stuv" for line in ("trigger " + name, "olds", "news")]
        self.check(15, *start[:2], *four, "trigger w", "olds", "news")
        self.check(15, *start[:2], *four, "trigger W")
        self.check(15, *start[:2], *four, "anything")
        self.check(16, *start[:2], *four, "refuse", "trigger w")

    def test_the_first_wrong_line_is_told(self):
        lines = FULL_TEXT.split("\n")
        for number in range(1, len(lines) + 1):
            self.check(number, *lines[:number - 1], "x", *lines[number:])
            self.check(number, *lines[:number - 1], "x", *lines[number:], "y", "z")
            self.check(number, *lines[:number - 1], lines[number - 1] + " ", *["x"] * 5)

    def test_wrong_lines_come_ahead_of_wrong_names(self):
        self.check(3, "kinds a", "counters a", "x")
        self.check(6, "kinds a", "counters a", "trigger a", "olds b", "news b", "x")
        self.check(5, "kinds a", "counters", "trigger a", "olds b")

    def test_the_error_is_a_lot_error(self):
        with self.assertRaises(LotError):
            Book.parse("")

    def test_changed_texts(self):
        chance = random.Random(8)
        samples = [book.text().split("\n") for book in BOOKS]
        heap = [line for lines in samples for line in lines]
        for _ in range(4000):
            lines = list(chance.choice(samples))
            for _ in range(chance.randint(1, 2)):
                place = chance.randrange(len(lines) + 1)
                change = chance.randrange(4)
                if change == 0:
                    lines[place:place + chance.randint(0, 2)] = []
                elif change == 1:
                    lines[place:place + chance.randint(0, 1)] = [chance.choice(heap)]
                elif lines:
                    place = chance.randrange(len(lines))
                    signs = list(lines[place])
                    at = chance.randrange(len(signs) + 1)
                    signs[at:at + chance.randint(0, 1)] = chance.choice([" ", "a", "0", "1", "+", ">", "", "\n", "."])
                    lines[place] = "".join(signs)
            text = "\n".join(lines)
            wrong = first_wrong_line(text)
            if wrong is not None:
                self.assertEqual(bad_line(text), wrong, text)
                continue
            try:
                self.assertEqual(Book.parse(text).text(), text)
            except BadBook as error:
                self.assertEqual(error.place, "names")


class WrongNames(unittest.TestCase):
    def check(self, *lines):
        with self.assertRaises(BadBook) as caught:
            Book.parse("\n".join(lines))
        self.assertEqual(caught.exception.place, "names", lines)

    def test_names_that_are_the_same(self):
        self.check("kinds a", "counters a")
        self.check("kinds a", "counters", "trigger a", "olds", "news")
        self.check("kinds a", "counters n", "trigger n", "olds", "news")
        self.check("kinds a", "counters", "trigger t", "olds", "news", "trigger t", "olds", "news")

    def test_names_that_the_book_lacks(self):
        start = ["kinds a", "counters n", "trigger t"]
        self.check(*start, "olds b", "news")
        self.check(*start, "olds", "news n")
        for line in ("test 0 1 b", "test 0 1 n", "test 0 1 a new.b", "test 0 1 old.n", "do b>", "do a>b", "do +n 1",
                     "add a 1", "add m 1", "set t 1", "add n 1 b", "add n 1 old.n", "set n 1 new.b", "add n 1 t"):
            self.check(*start, "olds", "news", line)

    def test_the_same_lines_with_names_that_the_book_has(self):
        start = ["kinds a b", "counters m n", "trigger t"]
        for line in ("test 0 1 b", "test 0 1 a new.b", "do b>", "do a>b", "add m 1", "add n 1 b", "set n 1 new.b"):
            text = "\n".join([*start, "olds b", "news", line])
            self.assertEqual(Book.parse(text).text(), text)

    def test_statements_in_texts_are_those_of_their_texts(self):
        text = "kinds a b\ncounters\ntrigger t\nolds\nnews\ndo a>b a, +b 2"
        self.assertTrue(Book.parse(text).triggers[0].deeds[0] == Statement({"a": ["b", "a"]}, {"b": 2}))


if __name__ == "__main__":
    unittest.main()
