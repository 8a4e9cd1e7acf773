import math
import random
import unittest

from statementlots.spans import Span

from test_sums import rank


class Spans(unittest.TestCase):
    def rows_by(self, chance):
        width = chance.randint(1, 6)
        rows = [[chance.choice([0, 0, 1, -1, 2, -3, 10 ** 20]) for _ in range(width)]
                for _ in range(chance.randint(0, 7))]
        return width, rows

    def test_rows_that_the_span_lacked(self):
        chance = random.Random(101)
        for _ in range(500):
            _, rows = self.rows_by(chance)
            span = Span([])
            for many, row in enumerate(rows):
                known = list(row)
                self.assertIs(span.grows_by(row), rank(rows[:many + 1]) > rank(rows[:many]), rows)
                self.assertEqual(row, known)

    def test_bases(self):
        chance = random.Random(103)
        for _ in range(500):
            width, rows = self.rows_by(chance)
            found = Span(rows).basis()
            self.assertEqual(len(found), rank(rows))
            self.assertEqual(rank([*rows, *found]), rank(rows))
            firsts = [[number != 0 for number in row].index(True) for row in found]
            self.assertEqual(firsts, sorted(firsts))
            for row, first in zip(found, firsts):
                self.assertGreater(row[first], 0)
                self.assertEqual(math.gcd(*row), 1)
                self.assertEqual([other[first] for other in found if other != row], [0] * (len(found) - 1))
            chance.shuffle(rows)
            self.assertEqual(Span(rows).basis(), found)

    def test_normals(self):
        chance = random.Random(107)
        for _ in range(500):
            width, rows = self.rows_by(chance)
            found = Span(rows).normal(width).basis()
            self.assertEqual(len(found) + rank(rows), width)
            for row in rows:
                for normal in found:
                    self.assertEqual(sum(one * other for one, other in zip(row, normal)), 0)

    def test_no_rows(self):
        self.assertEqual(Span([]).basis(), [])
        self.assertEqual(Span([[0, 0]]).basis(), [])
        self.assertEqual(Span([]).normal(2).basis(), [[1, 0], [0, 1]])


if __name__ == "__main__":
    unittest.main()
