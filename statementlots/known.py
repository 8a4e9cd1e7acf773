"""Books that are part of the package."""

from statementlots.books import Book, Trigger
from statementlots.forms import Form
from statementlots.statements import Statement

DONE_AND_OPEN = ("done", "open")


def adding():
    """Return the book that adds to a counter what each statement brings, less what it takes."""
    more = Form({"new.done": 1, "new.open": 1, "old.done": -1, "old.open": -1})
    keep = Trigger("keep", DONE_AND_OPEN, DONE_AND_OPEN, [], [("add", "total", more)])
    return Book(DONE_AND_OPEN, ["total"], [keep])


def telling():
    """Return the book that sets a counter to the number of rows, if rows are written."""
    tell = Trigger("tell", [], DONE_AND_OPEN, [], [("set", "total", Form({"done": 1, "open": 1}))])
    return Book(DONE_AND_OPEN, ["total"], [tell])


def guarding(number):
    """Return the book that refuses more than so many rows of a kind."""
    guard = Trigger("guard", [], ["open"], [(["open"], number + 1, None)], ["refuse"])
    return Book(DONE_AND_OPEN, [], [guard])


def logging(number):
    """Return the book that brings a row to a log for each statement whose new lot has at least so many rows."""
    tests = [(["new.done", "new.open"], number, None)]
    note = Trigger("note", DONE_AND_OPEN, DONE_AND_OPEN, tests, [Statement({}, {"log": 1})])
    return Book(["done", "log", "open"], [], [note])


def falling(width):
    """Return the book that brings, for each statement that writes a kind, so many times a row of the next one."""
    triggers = []
    for kind, behind in (("a", "b"), ("b", "c"), ("c", "d")):
        triggers.append(Trigger("fall" + kind, [], [kind], [], [Statement({}, {behind: 1})] * width))
    return Book(["a", "b", "c", "d"], [], triggers)


def ringing():
    """Return the book whose triggers set off one another for ever."""
    to = Trigger("to", [], ["a"], [], [Statement({"a": ["b"]})])
    fro = Trigger("fro", [], ["b"], [], [Statement({"b": ["a"]})])
    return Book(["a", "b"], [], [to, fro])
