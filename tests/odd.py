"""Objects that are of the wrong kind, or that allow nothing to be done with them."""

HUGE = 10 ** 6000


class Hostile:
    """An object that can be kept, but neither compared, hashed, measured, shown nor tested."""

    def _refuse(self, *_):
        raise AssertionError("this object is not to be asked")

    __eq__ = __ne__ = __lt__ = __hash__ = __len__ = __bool__ = __str__ = __repr__ = __iter__ = _refuse


class EqualToAll:
    """An object that says of itself that it is equal to everything."""

    def __eq__(self, other):
        return True

    def __hash__(self):
        return 0


# What is hashable, and no name.
ODD_KEYS = [
    "", "abcdefghi", "Open", "opeN", "a1", "1", "a b", " a", "a ", "a\n", "\n", "a_b", "a-b", "a>", "+a", "old.a",
    "abcdefg\n", "{", "`", "a" * 100000, b"a", None, True, False, 0, 1, -1, 1.5, HUGE, (), ("a",), ("a", "b"),
    frozenset(), frozenset(["a"]), object(), EqualToAll(), int, len,
]

# What is no name, hashable or not.
ODD_NAMES = ODD_KEYS + [[], ["a"], {}, {"a": 1}, set(), {"a"}, bytearray(b"a"), Hostile()]

# What is no integer.
ODD_INTEGERS = [
    True, False, None, 1.0, 0.0, 1.5, float("nan"), "", "1", "a", b"1", 1j, (), (1,), [], [1], {}, {"a": 1}, set(),
    object(), EqualToAll(), Hostile(), int,
]
