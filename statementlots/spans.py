"""Spans: all sums of multiples of some rows of integers."""

from math import gcd, lcm


def first_place(row):
    """Return the first place of a row at which there is another integer than 0, and None if there is none."""
    for place, integer in enumerate(row):
        if integer != 0:
            return place
    return None


def least_row(row):
    """Return a row, which is not all 0, without a common divisor, and its first integer positive."""
    divisor = 0
    for integer in row:
        divisor = gcd(divisor, integer)
    if row[first_place(row)] < 0:
        divisor = -divisor
    return [integer // divisor for integer in row]


def cleared(row, other, place):
    """Return a multiple of a row, and of another one, together such that there is 0 at a place."""
    return [other[place] * one - row[place] * two for one, two in zip(row, other)]


class Span:
    """All sums of multiples of some rows of integers, all equally long."""

    def __init__(self, rows):
        # The rows by their first places; these are different, so that none is a sum of multiples of others.
        self._rows = {}
        for row in rows:
            self.grows_by(row)

    def grows_by(self, row):
        """Take a further row, and tell whether the span lacked it."""
        # A span of all rows lacks none, however great its integers are.
        if len(self._rows) == len(row):
            return False
        for place in sorted(self._rows):
            if row[place] != 0:
                row = cleared(row, self._rows[place], place)
        place = first_place(row)
        if place is None:
            return False
        self._rows[place] = least_row(row)
        return True

    def basis(self):
        """Return the list of the rows, the first places ascending, of which none is in use by another row."""
        places = sorted(self._rows)
        found = {}
        for place in reversed(places):
            row = self._rows[place]
            for behind, other in found.items():
                row = cleared(row, other, behind)
            found[place] = least_row(row)
        return [found[place] for place in places]

    def normal(self, width):
        """Return the span of the rows of such a width whose product with each row of this one is 0."""
        rows = self.basis()
        places = [first_place(row) for row in rows]
        times = 1
        for row, place in zip(rows, places):
            times = lcm(times, row[place])
        found = []
        for free in range(width):
            if free not in places:
                normal = [0] * width
                normal[free] = times
                for row, place in zip(rows, places):
                    normal[place] = -row[free] * (times // row[place])
                found.append(normal)
        return Span(found)
