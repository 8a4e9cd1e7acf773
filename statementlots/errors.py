"""The errors that the package raises."""

# Python refuses to write out integers of some thousand figures; those up to this
# many bits it always writes out.
MOST_BITS = 1000


def shown(field):
    """Return something in the place of a field that can always be written out."""
    if field is None or isinstance(field, str):
        return field
    if isinstance(field, int) and field.bit_length() <= MOST_BITS:
        return field
    return "a value that is not written out"


class LotError(ValueError):
    """The base of all errors of the package."""

    def __init__(self, field):
        ValueError.__init__(self, shown(field))


class BadTable(LotError):
    """A table is told something that is no name, or no number of rows, or no worth."""

    def __init__(self, name):
        LotError.__init__(self, name)
        self.name = name


class BadStatement(LotError):
    """A statement is told something that is no kind, no list of kinds or no number to bring."""

    def __init__(self, kind):
        LotError.__init__(self, kind)
        self.kind = kind


class BadForm(LotError):
    """A form is told something that is no word, or no integer for a word."""

    def __init__(self, word):
        LotError.__init__(self, word)
        self.word = word


class BadNumber(LotError):
    """The number of a form is no integer."""

    def __init__(self, number):
        LotError.__init__(self, number)
        self.number = number


class BadTrigger(LotError):
    """A part of a trigger is not right."""

    def __init__(self, place):
        LotError.__init__(self, place)
        self.place = place


class BadBook(LotError):
    """A part of a book is not right."""

    def __init__(self, place):
        LotError.__init__(self, place)
        self.place = place


class BadText(LotError):
    """A text is wrong; the lines of the text of a book are counted from 1, other texts are the line 0."""

    def __init__(self, line):
        LotError.__init__(self, line)
        self.line = line


class Overlap(LotError):
    """Two statements that are to be joined both read a kind, or bring too many rows of it together."""

    def __init__(self, kind):
        LotError.__init__(self, kind)
        self.kind = kind


class Unknown(LotError):
    """A book lacks a name."""

    def __init__(self, name):
        LotError.__init__(self, name)
        self.name = name


class BadPicks(LotError):
    """Picks tell a kind that the statement does not read, or a number that is not there."""

    def __init__(self, kind):
        LotError.__init__(self, kind)
        self.kind = kind


class BadClass(LotError):
    """A list is no class of tables."""

    def __init__(self, index):
        LotError.__init__(self, index)
        self.index = index


class Refused(LotError):
    """A trigger refuses the statement that was asked for."""

    def __init__(self, name):
        LotError.__init__(self, name)
        self.name = name


class Endless(LotError):
    """A statement is endless."""

    def __init__(self):
        # There is no field to hand on.
        pass


class NoDeed(LotError):
    """There is nothing to undo, or nothing to do again."""

    def __init__(self):
        # There is no field to hand on.
        pass
