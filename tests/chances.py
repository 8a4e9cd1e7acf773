"""Books, statements and tables by chance, always the same ones for the same seed."""

from statementlots.books import Book, Trigger
from statementlots.forms import Form
from statementlots.statements import Statement


def statement_by(chance, kinds):
    turns = {kind: [chance.choice(kinds) for _ in range(chance.choice([0, 1, 1, 1, 2, 3]))]
             for kind in kinds if chance.random() < 0.4}
    brings = {kind: chance.choice([1, 1, 2, 9]) for kind in kinds if chance.random() < 0.25}
    return Statement(turns, brings)


def form_by(chance, kinds, counters):
    words = [*kinds, *counters, *["old." + kind for kind in kinds], *["new." + kind for kind in kinds]]
    return Form({word: chance.randint(-3, 3) for word in chance.sample(words, chance.randint(0, 3))},
                chance.randint(-2, 2))


def test_by(chance, kinds, greatest):
    words = [front + kind for front in ("", "", "old.", "new.") for kind in kinds]
    least = chance.choice([0, chance.randint(0, greatest)])
    most = chance.choice([None, None, chance.randint(0, greatest), greatest])
    return sorted(set(chance.sample(words, chance.randint(1, 2)))), least, most


def deed_by(chance, kinds, counters):
    what = chance.random()
    if what < 0.08:
        return "refuse"
    if what < 0.6 and counters:
        return chance.choice(["add", "set"]), chance.choice(counters), form_by(chance, kinds, counters)
    return statement_by(chance, kinds)


def trigger_by(chance, label, kinds, counters, greatest):
    olds = [kind for kind in kinds if chance.random() < 0.4]
    news = [kind for kind in kinds if chance.random() < 0.5]
    tests = [test_by(chance, kinds, greatest) for _ in range(chance.choice([0, 1, 1, 2, 3]))]
    return Trigger(label, olds, news, tests, [deed_by(chance, kinds, counters) for _ in range(chance.randint(0, 4))])


def book_by(chance):
    kinds = ["a", "b", "c", "d"][:chance.choice([1, 2, 2, 3, 4])]
    counters = ["x", "y", "z"][:chance.choice([0, 1, 2, 3])]
    greatest = chance.choice([0, 1, 1, 2, 3])
    labels = chance.sample(["p", "q", "r", "s"], chance.choice([0, 1, 2, 3, 4, 4]))
    return Book(kinds, counters, [trigger_by(chance, label, kinds, counters, greatest) for label in labels])


def rows_by(chance, book):
    return {kind: chance.choice([0, 0, 1, 2, 3, 4, 5, 7]) for kind in book.kinds}


def worths_by(chance, book):
    return {counter: chance.randint(-9, 9) for counter in book.counters}
