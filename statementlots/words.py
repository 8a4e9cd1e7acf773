"""Words: what forms and tests call the numbers that a trigger sees."""

from statementlots.values import is_name

# A word with one of these in front tells of a lot; both are equally long.
OLD = "old."
NEW = "new."


def is_of_lot(text):
    """Tell whether a string begins as the words of the old lot and of the new lot do."""
    return text.startswith(OLD) or text.startswith(NEW)


def name_in(word):
    """Return the name that a word is or has."""
    return word[len(OLD):] if is_of_lot(word) else word


def is_word(thing):
    """Tell whether any object is a word."""
    return isinstance(thing, str) and is_name(name_in(thing))
