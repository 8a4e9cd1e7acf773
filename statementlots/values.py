"""What the package asks of the values that it is passed."""

LETTERS = "abcdefghijklmnopqrstuvwxyz"
MOST_LETTERS = 8


def is_name(thing):
    """Tell whether any object is a name."""
    if not isinstance(thing, str) or not 1 <= len(thing) <= MOST_LETTERS:
        return False
    return all([letter in LETTERS for letter in thing])


def is_integer(thing):
    """Tell whether any object is an integer; True and False are none."""
    return isinstance(thing, int) and not isinstance(thing, bool)


def is_list(thing):
    """Tell whether any object is a list; a tuple stands for one."""
    return isinstance(thing, (list, tuple))


def is_names(thing, least, most):
    """Tell whether any object is a list of different names, at least and at most so many (None is no bound)."""
    if not is_list(thing) or len(thing) < least:
        return False
    if most is not None and len(thing) > most:
        return False
    return all([is_name(name) for name in thing]) and are_different(thing)


def are_different(texts):
    """Tell whether the strings of a list are all different."""
    return len(set(texts)) == len(texts)


def pairs_of(thing):
    """Return the list of the pairs of a dict, for which an empty list may stand."""
    if isinstance(thing, dict):
        return list(thing.items())
    if is_list(thing) and len(thing) == 0:
        return []
    # None is no name, so that whoever checks the pairs of any other object finds the first one wrong.
    return [(None, None)]


def sums(one, other):
    """Return the dict of the sums of two dicts from names to integers, in which a name that is lacking has 0."""
    return {name: one.get(name, 0) + other.get(name, 0) for name in {**one, **other}}
