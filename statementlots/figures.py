"""Integers in figures, also those with more figures than Python writes and reads at once."""

FIGURES = {"0": 0, "1": 1, "2": 2, "3": 3, "4": 4, "5": 5, "6": 6, "7": 7, "8": 8, "9": 9}


def figures_of(number):
    """Return an integer in figures."""
    rest = abs(number)
    parts = []
    # Python refuses to write out integers of some thousand figures at once.
    while rest >= 10 ** 64:
        rest, low = divmod(rest, 10 ** 64)
        parts.append(str(low).zfill(64))
    parts.append(str(rest))
    if number < 0:
        parts.append("-")
    return "".join(reversed(parts))


def integer_in(text):
    """Return the integer that a string tells in figures, be there noughts ahead or not; None if it tells none."""
    figures = text[1:] if text.startswith("-") else text
    if figures == "" or not all([figure in FIGURES for figure in figures]):
        return None
    number = 0
    for figure in figures:
        number = 10 * number + FIGURES[figure]
    return -number if text.startswith("-") else number
