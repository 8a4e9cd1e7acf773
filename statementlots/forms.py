"""Forms: sums of words, each times an integer, and of an integer."""

from statementlots.errors import BadForm, BadNumber, BadText
from statementlots.figures import figures_of, integer_in
from statementlots.values import is_integer, sums
from statementlots.words import is_word

BETWEEN = " + "


def checked_parts(told):
    """Return the dict of the words with other integers than 0, ascending; raise BadForm for the first wrong one."""
    if not isinstance(told, dict):
        raise BadForm(None)
    for word, times in told.items():
        if not is_word(word) or not is_integer(times):
            raise BadForm(word)
    return {word: told[word] for word in sorted(told) if told[word] != 0}


def told_form(text):
    """Return the dict of the words and the number that a text tells; what is no integer in it is None."""
    parts = {}
    number = 0
    for part in text.split(BETWEEN):
        figures, blank, word = part.partition(" ")
        if blank == "":
            number = integer_in(figures)
        else:
            parts[word] = integer_in(figures)
    return parts, number


class Form:
    """An immutable form."""

    def __init__(self, parts, number=0):
        self._parts = checked_parts(parts)
        if not is_integer(number):
            raise BadNumber(number)
        self._number = number

    def __eq__(self, other):
        return isinstance(other, Form) and self._parts == other._parts and self._number == other._number

    def __add__(self, other):
        if not isinstance(other, Form):
            return NotImplemented
        return Form(sums(self._parts, other._parts), self._number + other._number)

    def __sub__(self, other):
        if not isinstance(other, Form):
            return NotImplemented
        less = {word: -times for word, times in other._parts.items()}
        return Form(sums(self._parts, less), self._number - other._number)

    def __mul__(self, other):
        if not is_integer(other):
            return NotImplemented
        return Form({word: times * other for word, times in self._parts.items()}, self._number * other)

    @property
    def integer(self):
        """The number of the form."""
        return self._number

    def parts(self):
        """Return the dict from the words, ascending, to their integers."""
        return dict(self._parts)

    def of(self, worths):
        """Return the worth of the form for a dict from words to integers; a word that it lacks has 0."""
        return self._number + sum([times * worths.get(word, 0) for word, times in self._parts.items()])

    def text(self):
        """Return the text."""
        texts = [figures_of(times) + " " + word for word, times in self._parts.items()]
        if self._number != 0 or len(texts) == 0:
            texts.append(figures_of(self._number))
        return BETWEEN.join(texts)

    @classmethod
    def parse(cls, text):
        """Return the form that has a text; raise BadText(0) for any object that is no text of one."""
        if not isinstance(text, str):
            raise BadText(0)
        parts, number = told_form(text)
        try:
            form = cls(parts, number)
        except (BadForm, BadNumber):
            raise BadText(0) from None
        # A text in another order, with a word twice or with needless noughts tells a form but is not its text.
        if form.text() != text:
            raise BadText(0)
        return form
