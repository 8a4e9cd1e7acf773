"""The program gives the same values for the same books with other names, and changes nothing that it is passed."""

import random
import unittest

from statementlots.books import Book, Trigger
from statementlots.cuts import two_goes, uncuttable
from statementlots.errors import Endless, Refused
from statementlots.forms import Form
from statementlots.many import done_many
from statementlots.papers import calls, is_paper, outcome
from statementlots.same import books_unlike, idle, unlike
from statementlots.statements import Statement
from statementlots.sums import breaking, is_kept, kept, shown
from statementlots.tables import Table

from chances import book_by, rows_by, statement_by, worths_by
from ends import shown as shown_of
from model import TooMuch, calls_of

# The same order, and another one.
SAME_ORDER = {"a": "cc", "b": "ccc", "c": "kind", "d": "z", "x": "zz", "y": "zzz", "z": "zzzzzzzz",
              "p": "b", "q": "be", "r": "bee", "s": "beef"}
OTHER_ORDER = {"a": "z", "b": "x", "c": "y", "d": "a", "x": "m", "y": "new", "z": "old", "p": "d", "q": "c", "r": "b",
               "s": "set"}


def word(names, text):
    front, dot, name = text.rpartition(".")
    return front + dot + names[name]


def form(names, one):
    return Form({word(names, text): times for text, times in one.parts().items()}, one.integer)


def statement(names, one):
    return Statement({names[kind]: [names[other] for other in kinds] for kind, kinds in one.turns().items()},
                     {names[kind]: number for kind, number in one.brings().items()})


def deed(names, one):
    if isinstance(one, tuple):
        return one[0], names[one[1]], form(names, one[2])
    return one if one == "refuse" else statement(names, one)


def trigger(names, one):
    tests = [([word(names, text) for text in words], least, most) for words, least, most in one.tests]
    return Trigger(names[one.label], [names[kind] for kind in one.olds], [names[kind] for kind in one.news], tests,
                   [deed(names, some) for some in one.deeds])


def book(names, one):
    return Book([names[kind] for kind in one.kinds], [names[counter] for counter in one.counters],
                [trigger(names, some) for some in one.triggers])


def table(names, one):
    rows, worths = shown_of(one)
    return Table({names[kind]: number for kind, number in rows.items()},
                 {names[counter]: worth for counter, worth in worths.items()})


def end(names, found):
    if found[0] == "refused":
        return "refused", names[found[1]]
    return found if found[0] == "endless" else ("done", {names[name]: form(names, one) for name, one in found[1].items()})


def numbers(names, kinds, some):
    """Return a class with its numbers in the order of the other names."""
    return tuple(number for _, number in sorted(zip([names[kind] for kind in kinds], some)))


def asked_by(chance):
    """Return a book and statements of which callers may ask for all tables."""
    while True:
        one = book_by(chance)
        statements = [statement_by(chance, one.kinds) for _ in range(3)]
        if (one.cap + 1) ** len(one.kinds) > 27:
            continue
        rows = [()]
        for _ in one.kinds:
            rows = [(*some, number) for some in rows for number in range(one.cap + 1)]
        try:
            for some in rows:
                for other in statements:
                    calls_of(one, dict(zip(one.kinds, some)), other)
        except TooMuch:
            continue
        return one, statements


class OtherNames(unittest.TestCase):
    def check(self, names, seed):
        chance = random.Random(seed)
        for _ in range(30):
            one, statements = asked_by(chance)
            other, others = book(names, one), [statement(names, some) for some in statements]
            rows = calls(one, statements)
            renamed = [(statement(names, asked), numbers(names, one.kinds, some), rank, end(names, found))
                       for asked, some, rank, found in rows]
            self.assertEqual(calls(other, others), sorted(renamed, key=lambda row: (row[0].text(), row[1])))
            self.assertTrue(is_paper(other, renamed))
            for asked, some, _, found in rows[:9]:
                self.assertEqual(outcome(other, statement(names, asked), numbers(names, one.kinds, some)),
                                 end(names, found))
            self.assertEqual(idle(other, others), [names[label] for label in idle(one, statements)])
            self.sizes(unlike(one, statements[:2], statements[1:]), unlike(other, others[:2], others[1:]))
            plain = Book(one.kinds, one.counters, one.triggers[:1])
            self.sizes(books_unlike(one, plain, statements), books_unlike(other, book(names, plain), others))
            self.cuts(names, chance, one, statements[0])
            first = Table(rows_by(chance, one), worths_by(chance, one))
            self.sums(names, one, statements[:2], first)
            self.many(names, one, statements[:2], first)

    def sums(self, names, one, statements, first):
        other, others, table_of = book(names, one), [statement(names, some) for some in statements], table(names, first)
        forms = kept(one, statements, first)
        self.assertEqual(len(kept(other, others, table_of)), len(forms))
        for some in forms:
            self.assertTrue(is_kept(other, others, table_of, form(names, some)))
        for name in [*one.kinds, *one.counters]:
            self.assertEqual(breaking(other, others, table_of, Form({names[name]: 1})),
                             breaking(one, statements, first, Form({name: 1})))
        # Which tables show what is kept is not told by the names.
        self.assertEqual(shown(other, others, table_of), shown(one, statements, first))

    def many(self, names, one, statements, first):
        found = []
        for told in ((one, statements, first), (book(names, one), [statement(names, some) for some in statements],
                                                table(names, first))):
            try:
                found.append(done_many(*told, 10 ** 9, 97))
            except Refused as error:
                found.append(error.name)
            except Endless:
                found.append(None)
        if isinstance(found[0], dict):
            found[0] = {names[name]: worth for name, worth in found[0].items()}
        self.assertEqual(names.get(found[0], found[0]) if isinstance(found[0], str) else found[0], found[1])

    def sizes(self, one, other):
        self.assertEqual(None if one is None else one.size(), None if other is None else other.size())

    def cuts(self, names, chance, one, asked):
        rows, worths = rows_by(chance, one), worths_by(chance, one)
        first = {kind: chance.randint(0, rows[kind]) for kind in asked.reads()}
        second = {kind: chance.randint(0, rows[kind] - first[kind]) for kind in asked.reads()}
        try:
            found = two_goes(one, Table(rows, worths), asked, first, second)
            other = two_goes(book(names, one), table(names, Table(rows, worths)), statement(names, asked),
                             {names[kind]: number for kind, number in first.items()},
                             {names[kind]: number for kind, number in second.items()})
            self.assertTrue(other == table(names, found))
        except (Refused, Endless):
            pass
        if (one.cap + 1) ** (len(one.kinds) + 2 * len(asked.reads())) < 300:
            found, other = uncuttable(one, asked), uncuttable(book(names, one), statement(names, asked))
            self.sizes(found and found[0], other and other[0])

    def test_in_the_same_order(self):
        self.check(SAME_ORDER, 67)

    def test_in_another_order(self):
        self.check(OTHER_ORDER, 71)


class WhatIsPassed(unittest.TestCase):
    def test_nothing_is_modified(self):
        chance = random.Random(73)
        for _ in range(20):
            one, statements = asked_by(chance)
            text, texts = one.text(), [some.text() for some in statements]
            rows = calls(one, statements)
            is_paper(one, rows)
            idle(one, statements)
            unlike(one, statements, statements[:1])
            books_unlike(one, Book(one.kinds, one.counters, []), statements)
            first = Table({one.kinds[0]: 3})
            kept(one, statements, first)
            breaking(one, statements, first, Form({one.kinds[0]: 1}))
            shown(one, statements, first)
            try:
                done_many(one, statements, first, 5, 7)
            except (Refused, Endless):
                pass
            self.assertTrue(first == Table({one.kinds[0]: 3}))
            self.assertEqual(one.text(), text)
            self.assertEqual([some.text() for some in statements], texts)
            self.assertEqual(calls(one, statements), rows)


if __name__ == "__main__":
    unittest.main()
