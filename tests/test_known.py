import unittest

from statementlots import known
from statementlots.books import Book, Trigger
from statementlots.errors import Endless, Refused
from statementlots.forms import Form
from statementlots.runs import run
from statementlots.tables import Table

import samples
from samples import bring, turn

ADDING = """kinds done open
counters total
trigger keep
olds done open
news done open
add total 1 new.done + 1 new.open + -1 old.done + -1 old.open"""

TELLING = """kinds done open
counters total
trigger tell
olds
news done open
set total 1 done + 1 open"""

GUARDING = """kinds done open
counters
trigger guard
olds
news open
test {} * open
refuse"""

LOGGING = """kinds done log open
counters
trigger note
olds done open
news done open
test {} * new.done new.open
do +log 1"""

FALLING = """kinds a b c d
counters
trigger falla
olds
news a{}
trigger fallb
olds
news b{}
trigger fallc
olds
news c{}"""

RINGING = """kinds a b
counters
trigger to
olds
news a
do a>b
trigger fro
olds
news b
do b>a"""


class Texts(unittest.TestCase):
    def check(self, book, text):
        self.assertIsInstance(book, Book)
        self.assertEqual(book.text(), text)

    def test_all_books(self):
        self.check(known.adding(), ADDING)
        self.check(known.telling(), TELLING)
        for number in range(3):
            self.check(known.guarding(number), GUARDING.format(number + 1))
            self.assertEqual(known.guarding(number).cap, number + 2)
        for number in range(4):
            self.check(known.logging(number), LOGGING.format(number))
            self.assertEqual(known.logging(number).cap, number + 1)
        for width in range(5):
            self.check(known.falling(width),
                       FALLING.format(*[("\ndo +" + kind + " 1") * width for kind in "bcd"]))
        self.check(known.ringing(), RINGING)

    def test_parameters_by_name(self):
        self.check(known.guarding(number=2), GUARDING.format(3))
        self.check(known.logging(number=0), LOGGING.format(0))
        self.assertTrue(known.falling(width=3) == known.falling(3))

    def test_equal_arguments_give_equal_books(self):
        for one, other in ((known.adding(), samples.adding()), (known.telling(), samples.telling()),
                           (known.guarding(0), samples.guarding(0)), (known.guarding(2), samples.guarding(2)),
                           (known.logging(0), samples.logging(0)), (known.logging(3), samples.logging(3)),
                           (known.falling(0), samples.falling(0)), (known.falling(4), samples.falling(4)),
                           (known.ringing(), samples.ringing())):
            self.assertTrue(one == other)
        self.assertTrue(known.guarding(1) != known.guarding(2))
        self.assertTrue(known.logging(1) != known.logging(2))
        self.assertTrue(known.falling(1) != known.falling(2))


class Runs(unittest.TestCase):
    def test_adding_and_telling(self):
        table = Table({"open": 3, "done": 1}, {"total": 7})
        self.assertTrue(run(known.adding(), table, turn("open")).table == Table({"done": 1}, {"total": 4}))
        self.assertTrue(run(known.telling(), table, turn("open")).table == Table({"done": 1}, {"total": 7}))
        self.assertTrue(run(known.telling(), table, bring("done", 2)).table
                        == Table({"done": 3, "open": 3}, {"total": 6}))

    def test_guarding(self):
        for number in range(3):
            table = run(known.guarding(number), Table({"open": number, "done": 9}), turn("open", "open")).table
            self.assertEqual(table.rows("open"), number)
            with self.assertRaises(Refused) as caught:
                run(known.guarding(number), table, bring("open"))
            self.assertEqual(caught.exception.name, "guard")

    def test_logging(self):
        for number in range(4):
            for many in range(6):
                table = run(known.logging(number), Table({"open": many}), turn("open", "done")).table
                self.assertEqual(table.rows("log"), int(many >= number))

    def test_falling_and_ringing(self):
        for width in range(5):
            fired = run(known.falling(width), Table({}), bring("a")).fired()
            self.assertEqual(fired, {"falla": 1, "fallb": width, "fallc": width ** 2})
        for kind in "ab":
            with self.assertRaises(Endless):
                run(known.ringing(), Table({}), bring(kind))


class Values(unittest.TestCase):
    def test_the_deeds_and_tests(self):
        keep = known.adding().triggers[0]
        self.assertEqual([keep.label, keep.olds, keep.news, keep.tests], ["keep", ("done", "open"), ("done", "open"), ()])
        self.assertTrue(keep == Trigger("keep", ["open", "done"], ["done", "open"], [], [
            ("add", "total", Form({"new.done": 1, "new.open": 1, "old.done": -1, "old.open": -1}))]))
        self.assertEqual(known.falling(0).triggers[2].deeds, ())
        self.assertEqual([trigger.label for trigger in known.falling(2).triggers], ["falla", "fallb", "fallc"])


if __name__ == "__main__":
    unittest.main()
