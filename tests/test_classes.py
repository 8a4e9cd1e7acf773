import random
import unittest

from statementlots.books import Book, Trigger
from statementlots.errors import Endless, Refused
from statementlots.runs import class_of, least_table, run
from statementlots.tables import Table

from chances import book_by, rows_by, statement_by, worths_by
from model import TooMuch, end_of
from samples import BOOKS, adding, bring, guarding, logging, ringing, turn


class Classes(unittest.TestCase):
    def test_numbers_above_the_cap_are_told_as_the_cap(self):
        for number, capped in ((0, 0), (1, 1), (2, 2), (3, 3), (4, 3), (5, 3), (10 ** 30, 3)):
            self.assertEqual(class_of(guarding(1), Table({"open": number, "done": 1})), (1, capped))
            self.assertEqual(class_of(guarding(1), Table({"open": 2, "done": number})), (capped, 2))

    def test_kinds_ascend(self):
        book = Book(["c", "a", "b"], [], [Trigger("t", [], [], [(["a"], 3, None)], [])])
        self.assertEqual(class_of(book, Table({"b": 2, "c": 9, "a": 1})), (1, 2, 4))

    def test_of_a_book_without_tests(self):
        self.assertEqual(class_of(adding(), Table({"open": 7, "done": 0})), (0, 1))
        self.assertEqual(class_of(ringing(), Table({"a": 1})), (1, 0))

    def test_worths_do_not_matter(self):
        self.assertEqual(class_of(adding(), Table({"open": 1}, {"total": 99})), (0, 1))

    def test_a_class_is_a_tuple(self):
        for book in BOOKS:
            self.assertEqual(class_of(book, Table({})), (0,) * len(book.kinds))
            self.assertIsInstance(class_of(book, Table({})), tuple)

    def test_parameters_by_name(self):
        self.assertEqual(class_of(table=Table({"open": 7}), book=logging(1)), (0, 0, 2))
        self.assertTrue(least_table(numbers=(0, 0, 2), book=logging(1)) == Table({"open": 2}))


class LeastTables(unittest.TestCase):
    def test_rows_and_worths(self):
        table = least_table(adding(), (0, 1))
        self.assertTrue(table == Table({"open": 1}))
        self.assertEqual([table.row_kinds(), table.counter_names()], [["open"], []])
        self.assertTrue(least_table(guarding(2), (4, 2)) == Table({"done": 4, "open": 2}))

    def test_a_list_stands_for_a_class(self):
        numbers = [2, 1]
        self.assertTrue(least_table(guarding(1), numbers) == Table({"done": 2, "open": 1}))
        self.assertEqual(numbers, [2, 1])

    def test_the_least_table_of_a_class_is_of_this_class(self):
        chance = random.Random(2)
        for _ in range(200):
            book = book_by(chance)
            numbers = tuple(chance.randint(0, book.cap) for _ in book.kinds)
            table = least_table(book, numbers)
            self.assertEqual(class_of(book, table), numbers)
            self.assertEqual(table.size(), sum(numbers))


def told(book, table, statement):
    """Return all of what becomes of a table that the class of the table decides."""
    try:
        outcome = run(book, table, statement)
    except Refused as error:
        return ("refused", error.name)
    except Endless:
        return ("endless",)
    return ("done", outcome.fired(), class_of(book, outcome.table))


class WhatTheClassDecides(unittest.TestCase):
    def test_books_by_chance(self):
        chance = random.Random(13)
        ends = {"refused": 0, "endless": 0, "done": 0}
        for _ in range(1500):
            book = book_by(chance)
            statement, rows = statement_by(chance, book.kinds), rows_by(chance, book)
            table = Table(rows, worths_by(chance, book))
            least = least_table(book, class_of(book, table))
            # The model keeps each row by itself, so that it tells which runs end soon.
            try:
                end_of(book, {kind: least.rows(kind) for kind in book.kinds}, {}, statement)
            except TooMuch:
                continue
            more = Table({kind: 10 ** 30 for kind in book.kinds if least.rows(kind) == book.cap})
            expected = told(book, least, statement)
            self.assertEqual(told(book, table, statement), expected, book.text())
            self.assertEqual(told(book, least + more, statement), expected, book.text())
            ends[expected[0]] += 1
        self.assertTrue(all(many > 50 for many in ends.values()), ends)

    def test_the_cap_is_not_too_low(self):
        for number in range(3):
            for many in range(5):
                self.assertEqual(told(guarding(number), Table({"open": many}), bring("open"))[0],
                                 "refused" if many >= number else "done")
        for number in range(4):
            for many in range(6):
                fired = run(logging(number), Table({"open": many}), turn("open", "done")).fired()
                self.assertEqual(fired, {"note": int(many >= number)})


if __name__ == "__main__":
    unittest.main()
