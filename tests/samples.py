"""Books, triggers and deeds that several tests use."""

from statementlots.books import Book, Trigger
from statementlots.forms import Form
from statementlots.statements import Statement


def bring(kind, number=1):
    """The statement that brings so many rows of a kind."""
    return Statement({}, {kind: number})


def turn(kind, *kinds):
    """The statement that turns the rows of a kind into rows of others."""
    return Statement({kind: list(kinds)})


def adding():
    """The book whose trigger adds what has come, less what has gone, to a counter."""
    form = Form({"new.done": 1, "new.open": 1, "old.done": -1, "old.open": -1})
    return Book(["done", "open"], ["total"],
                [Trigger("keep", ["done", "open"], ["done", "open"], [], [("add", "total", form)])])


def telling():
    """The book whose trigger sets a counter to the number of all rows."""
    return Book(["done", "open"], ["total"],
                [Trigger("tell", [], ["done", "open"], [], [("set", "total", Form({"done": 1, "open": 1}))])])


def guarding(number):
    """The book whose trigger refuses more than so many rows of a kind."""
    return Book(["done", "open"], [], [Trigger("guard", [], ["open"], [(["open"], number + 1, None)], ["refuse"])])


def logging(number):
    """The book whose trigger brings a row to a log if at least so many rows are written."""
    tests = [(["new.done", "new.open"], number, None)]
    return Book(["done", "log", "open"], [],
                [Trigger("note", ["done", "open"], ["done", "open"], tests, [bring("log")])])


def falling(width):
    """The book each of whose triggers brings so many rows of the next kind."""
    triggers = [Trigger("fall" + kind, [], [kind], [], [bring(behind)] * width) for kind, behind in ("ab", "bc", "cd")]
    return Book(["a", "b", "c", "d"], [], triggers)


def ringing():
    """The book whose triggers set off one another for ever."""
    triggers = [Trigger("to", [], ["a"], [], [turn("a", "b")]), Trigger("fro", [], ["b"], [], [turn("b", "a")])]
    return Book(["a", "b"], [], triggers)


def filling(bound):
    """The book whose trigger brings rows one by one, up to a bound."""
    deeds = [bring("a"), ("add", "n", Form({"a": 1}))]
    return Book(["a"], ["n"], [Trigger("fill", [], ["a"], [(["a"], 0, bound - 1)], deeds)])


def wordy():
    """A book whose names are the words of the texts of books, statements and forms."""
    tests = [(["old.old", "new.olds", "kinds"], 0, 3), (("old",), 2, None)]
    deeds = [("add", "add", Form({"old": 1, "old.old": -2, "set": 3}, 4)), ["set", "set", Form({})], "refuse",
             Statement({"old": ["kinds", "olds"]}, {"news": 9})]
    triggers = [
        Trigger("trigger", ["old", "olds"], ["news", "kinds"], tests, deeds),
        Trigger("nothing", [], [], [], [Statement({})]),
        Trigger("refuse", ["old"], [], [], []),
        Trigger("test", [], ["old"], [(["news"], 1, 1)] * 3, ["refuse"] * 4),
    ]
    return Book(["olds", "old", "news", "kinds"], ["set", "do", "add"], triggers)


def full():
    """A book that has as many of everything as a book may have."""
    form = Form({"old.a": 1, "new.b": -2, "c": 3, "x": 10 ** 29, "z": -1}, 10 ** 29)
    tests = [(["new.a", "a", "old.d"], 0, 3), (["b"], 3, None), (["old.c"], 2, 1)]
    deeds = [Statement({"a": ["b", "c", "d"], "d": []}, {"a": 9}), ("add", "x", form), ("set", "y", form), "refuse"]
    triggers = [Trigger(name, list("cabd"), list("dcba"), tests, deeds) for name in ("p", "s", "r", "q")]
    return Book(list("dbca"), list("zxy"), triggers)


BOOKS = [
    adding(), telling(), guarding(0), guarding(2), logging(0), logging(3), falling(0), falling(4), ringing(),
    filling(1), filling(3), wordy(), full(), Book(["a"], [], []), Book(["d", "c", "b", "a"], ["z", "y", "x"], []),
]
