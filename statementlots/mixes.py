"""Mixes: what numbers of rows and worths are, told by those that there were ahead, which may be unknown.

A mix is a list of integers: a number, and behind it how many times each unknown of a scope is added to it.
"""


class Scope:
    """Unknowns: numbers of rows that are told up to a bound, and worths of counters that are not told at all."""

    def __init__(self, numbers, bound, counters):
        self._numbers = numbers
        self._bound = bound
        self._counters = counters
        self.width = 1 + len(numbers) + len(counters)

    def fixed(self, number):
        """Return the mix that is a number alone."""
        return [number] + [0] * (self.width - 1)

    def unknown(self, place):
        """Return the mix that is the unknown at a place alone."""
        return [1 if at == place else 0 for at in range(self.width)]

    def rows_at(self, index):
        """Return the mix of a number of rows: one at the bound may be any greater one as well."""
        number = self._numbers[index]
        return self.fixed(number) if number < self._bound else self.unknown(1 + index)

    def worths_at(self):
        """Return the dict from the counters to the mixes of their worths."""
        first = 1 + len(self._numbers)
        return {counter: self.unknown(first + index) for index, counter in enumerate(self._counters)}

    def tables_of(self, kinds):
        """Return the dict from some kinds, whose numbers are those of the scope, and the counters to their mixes."""
        return {**{kind: self.rows_at(index) for index, kind in enumerate(kinds)}, **self.worths_at()}

    def least_of(self, mix):
        """Return what a mix is, if no number of rows is above the bound, and all counters are 0."""
        return mix[0] + self._bound * sum(mix[1:1 + len(self._numbers)])

    def total(self, mixes):
        """Return the sum of a list of mixes."""
        whole = self.fixed(0)
        for mix in mixes:
            whole = [one + other for one, other in zip(whole, mix)]
        return whole

    def blend(self, number, parts, mixes):
        """Return the mix of a number and of words, each so many times; a word that the dict of mixes lacks is 0."""
        blended = self.fixed(number)
        for word, times in parts:
            if times != 0 and word in mixes:
                blended = [one + times * other for one, other in zip(blended, mixes[word])]
        return blended

    def nothing(self):
        """Return the list of 0 for each unknown."""
        return [0] * (self.width - 1)

    def parting(self, one, other):
        """Return what is to be added to each unknown so that two dicts of mixes differ; None if they never do.

        This tells no more rows than it must.
        """
        lacks = [[left - right for left, right in zip(mix, other[name])] for name, mix in one.items()]
        more = self.nothing()
        if any([self.least_of(lack) != 0 for lack in lacks]):
            return more
        # The unknowns of the counters, which stand last, need no row.
        for index in reversed(range(self.width - 1)):
            if any([lack[1 + index] != 0 for lack in lacks]):
                more[index] = 1
                return more
        return None
