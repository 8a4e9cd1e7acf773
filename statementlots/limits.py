"""How many of each thing a book and a trigger may have."""

MOST_KINDS_OF_BOOK = 4
MOST_COUNTERS = 3
MOST_TRIGGERS = 4
MOST_TESTS = 3
MOST_DEEDS = 4
GREATEST_BOUND = 3
