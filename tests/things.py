"""What the tests share: a test case for what is told True or False, and things of many kinds."""

import unittest


class Asking(unittest.TestCase):
    def yes(self, ask, *things):
        for place, thing in enumerate(things):
            self.assertIs(ask(thing), True, f"thing {place} of {ask.__name__}")

    def no(self, ask, *things):
        for place, thing in enumerate(things):
            self.assertIs(ask(thing), False, f"thing {place} of {ask.__name__}")


class Sulky:
    """An object that answers nothing: whoever compares, hashes or measures it fails."""

    __slots__ = ()

    def refuse(self, *others):
        raise RuntimeError("this object was asked something")

    __eq__ = __ne__ = __lt__ = __gt__ = __le__ = __ge__ = refuse
    __hash__ = __bool__ = __len__ = __iter__ = __getitem__ = refuse
    __contains__ = __abs__ = __int__ = __index__ = __str__ = __repr__ = refuse


def loop():
    """A list that holds itself."""
    own = []
    own.append(own)
    return own


def deep():
    """A tuple so deep that neither hash nor comparison may walk down into it."""
    inner = ()
    for step in range(5000):
        inner = (inner,)
    return inner


def odd_things():
    """Of none of them anything is told to be one: no value, name, line, row, book or widths."""
    return [
        None, True, False, 1.5, float("nan"), float("inf"), 2j, b"a", bytearray(b"a"),
        10 ** 5000, -(10 ** 5000), "", " ", "A", "a b", "a\n", "-", "0", "\u00e9", "\ud800", "a" * 5000,
        (), ((),), ([],), ({},), (None, None), (1.0, 2), (Sulky(), Sulky()), (set(), set()),
        [()], [[]], [None], [Sulky()], [{}], ["a"], ["a", 1], [("a",)],
        {1: []}, {"a": None}, {"a": ()}, {"A": []}, {(): []}, {None: []},
        set(), {1, 2}, frozenset(), range(3), object(), int, len, Sulky(), Sulky,
        iter([]), (sign for sign in "ab"), memoryview(b"a"), loop(), deep(), NotImplemented, ...,
    ]
