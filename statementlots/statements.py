"""Statements: what becomes of all rows of some kinds at once, and what rows come."""

from statementlots.errors import BadStatement, BadText, Overlap
from statementlots.values import is_integer, is_list, is_name, pairs_of, sums

MOST_KINDS = 3
MOST_BROUGHT = 9
FIGURES = {"1": 1, "2": 2, "3": 3, "4": 4, "5": 5, "6": 6, "7": 7, "8": 8, "9": 9}
NOTHING = "nothing"


def is_turn(thing):
    """Tell whether any object is a list of kinds that a row may become."""
    return is_list(thing) and len(thing) <= MOST_KINDS and all([is_name(kind) for kind in thing])


def is_brought(thing):
    """Tell whether any object is a number of rows that a statement may bring of a kind."""
    return is_integer(thing) and 1 <= thing <= MOST_BROUGHT


def checked_turns(told):
    """Return the dict of the turns that are told, the kinds ascending; raise BadStatement for the first wrong one."""
    pairs = pairs_of(told)
    for kind, kinds in pairs:
        if not is_name(kind) or not is_turn(kinds):
            raise BadStatement(kind)
    return {kind: tuple(kinds) for kind, kinds in sorted(pairs)}


def checked_brings(told):
    """Return the dict of the brings that are told, the kinds ascending; raise BadStatement for the first wrong one."""
    pairs = pairs_of(told)
    for kind, number in pairs:
        if not is_name(kind) or not is_brought(number):
            raise BadStatement(kind)
    return {kind: number for kind, number in sorted(pairs)}


def told_parts(text):
    """Return the turns and the brings that the parts of a text tell, be they right or not."""
    turns = {}
    brings = {}
    parts = [] if text == NOTHING else text.split(", ")
    for part in parts:
        if part.startswith("+"):
            kind, _, figure = part[1:].partition(" ")
            # No statement brings 0 rows, so that what is no figure is found wrong with the others.
            brings[kind] = FIGURES.get(figure, 0)
        else:
            kind, _, kinds = part.partition(">")
            turns[kind] = kinds.split(" ") if kinds else []
    return turns, brings


class Statement:
    """An immutable statement."""

    def __init__(self, turns, brings=()):
        self._turns = checked_turns(turns)
        self._brings = checked_brings(brings)

    def __eq__(self, other):
        return isinstance(other, Statement) and self._turns == other._turns and self._brings == other._brings

    def __or__(self, other):
        if not isinstance(other, Statement):
            return NotImplemented
        brings = sums(self._brings, other._brings)
        for kind in sorted({**self._turns, **brings}):
            if kind in self._turns and kind in other._turns:
                raise Overlap(kind)
            if brings.get(kind, 0) > MOST_BROUGHT:
                raise Overlap(kind)
        return Statement({**self._turns, **other._turns}, brings)

    def turns(self):
        """Return the dict from the kinds that it reads, ascending, to the tuples of kinds that they become."""
        return dict(self._turns)

    def brings(self):
        """Return the dict from the kinds that it brings, ascending, to their numbers of rows."""
        return dict(self._brings)

    def reads(self):
        """Return the ascending list of the kinds that it reads."""
        return list(self._turns)

    def writes(self):
        """Return the ascending list of the kinds that it writes."""
        becoming = [kind for kinds in self._turns.values() for kind in kinds]
        return sorted(set([*becoming, *self._brings]))

    def text(self):
        """Return the text."""
        turns = [kind + ">" + " ".join(kinds) for kind, kinds in self._turns.items()]
        brings = ["+" + kind + " " + str(number) for kind, number in self._brings.items()]
        return ", ".join([*turns, *brings]) or NOTHING

    @classmethod
    def parse(cls, text):
        """Return the statement that has a text; raise BadText(0) for any object that is no text of one."""
        if not isinstance(text, str):
            raise BadText(0)
        turns, brings = told_parts(text)
        try:
            statement = cls(turns, brings)
        except BadStatement:
            raise BadText(0) from None
        # A text in another order, or with a part twice, tells a statement but is not its text.
        if statement.text() != text:
            raise BadText(0)
        return statement
