"""What the tests share: test cases for what is told and refused, things of many kinds, and answers found by trying."""

import copy
import itertools
import unittest

from askwithin.errors import AskError, TooMany

WIDTHS = [("one", 1), ("two", 2), ("pair", 2), ("three", 3)]
NAMES = ["x", "y", "z", "w", "v"]
FAR = int("9" * 70)


class Asking(unittest.TestCase):
    def yes(self, ask, *things):
        for place, thing in enumerate(things):
            self.assertIs(ask(thing), True, f"thing {place} of {ask.__name__}")

    def no(self, ask, *things):
        for place, thing in enumerate(things):
            self.assertIs(ask(thing), False, f"thing {place} of {ask.__name__}")


class Sulky:
    """An object that answers nothing: whoever compares, hashes or measures it fails."""

    __slots__ = ()

    def refuse(self, *others):
        raise RuntimeError("this object was asked something")

    __eq__ = __ne__ = __lt__ = __gt__ = __le__ = __ge__ = refuse
    __hash__ = __bool__ = __len__ = __iter__ = __getitem__ = refuse
    __contains__ = __abs__ = __int__ = __index__ = __str__ = __repr__ = refuse


def loop():
    """A list that holds itself."""
    own = []
    own.append(own)
    return own


def deep():
    """A tuple so deep that neither hash nor comparison may walk down into it."""
    inner = ()
    for step in range(5000):
        inner = (inner,)
    return inner


def odd_things():
    """Of none of them anything is told to be one: no value, name, line, row, book or widths."""
    return [
        None, True, False, 1.5, float("nan"), float("inf"), 2j, b"a", bytearray(b"a"),
        10 ** 5000, -(10 ** 5000), "", " ", "A", "a b", "a\n", "-", "0", "\u00e9", "\ud800", "a" * 5000,
        (), ((),), ([],), ({},), (None, None), (1.0, 2), (Sulky(), Sulky()), (set(), set()),
        [()], [[]], [None], [Sulky()], [{}], ["a"], ["a", 1], [("a",)],
        {1: []}, {"a": None}, {"a": ()}, {"A": []}, {(): []}, {None: []},
        set(), {1, 2}, frozenset(), range(3), object(), int, len, Sulky(), Sulky,
        iter([]), (sign for sign in "ab"), memoryview(b"a"), loop(), deep(), NotImplemented, ...,
    ]


class Unwalked(list):
    """A list of rows that may be measured, not walked."""

    def __iter__(self):
        raise RuntimeError("these rows were walked")

    def __deepcopy__(self, memo):
        return self


class Refusing(unittest.TestCase):
    def too_many(self, ask, *things):
        """Refused by TooMany itself, with all that was handed in as it was."""
        before = copy.deepcopy(things)
        with self.assertRaises(AskError) as taken:
            ask(*things)
        self.assertIs(type(taken.exception), TooMany)
        self.assertIsInstance(taken.exception, ValueError)
        self.assertEqual(things, before)

    def unchanged(self, ask, *things):
        """Tells what is told, asked twice, with all that was handed in as it was, orders too."""
        before = repr(things)
        first = ask(*things)
        shown = repr(first)
        self.assertEqual(repr(ask(*things)), shown)
        self.assertEqual(repr(things), before)
        self.assertEqual(repr(first), shown)
        return first


def line(table, *terms):
    return (table, terms)


def rows(many, wide=1):
    """As many rows, told from the last to the first."""
    return [(k,) * wide for k in reversed(range(many))]


def names_told(lines):
    return list(dict.fromkeys(term for table, terms in lines for term in terms if isinstance(term, str)))


def wheel(lengths):
    """A book with a table of two places for each length, and lines of them around a ring."""
    book = {f"t{k}": [(j, j) for j in reversed(range(length))] for k, length in enumerate(lengths)}
    return book, tuple(line(f"t{k}", f"x{k}", f"x{(k + 1) % len(lengths)}") for k in range(len(lengths)))


def numbers_for(lines, chosen):
    """The numbers, by names, that make these rows of the lines, or None."""
    numbers = {}
    for (table, terms), row in zip(lines, chosen, strict=True):
        if len(terms) != len(row):
            return None
        for term, number in zip(terms, row):
            if number != (numbers.setdefault(term, number) if isinstance(term, str) else term):
                return None
    return numbers


def row_choices(book, lines):
    """By trying all rows for all lines: for each match its numbers by names, and the rows that the lines become."""
    for chosen in itertools.product(*[book.get(table, []) for table, terms in lines]):
        numbers = numbers_for(lines, chosen)
        if numbers is not None:
            yield numbers, chosen


def tried_matches(book, lines):
    names = names_told(lines)
    return sorted({tuple(numbers[name] for name in names) for numbers, chosen in row_choices(book, lines)})


def tried_rows(book, lines):
    kept = [set() for line in lines]
    for numbers, chosen in row_choices(book, lines):
        for own, row in zip(kept, chosen):
            own.add(row)
    return [sorted(own) for own in kept]


def tried_answers(book, question):
    told = set()
    for head, lines in question:
        for numbers, chosen in row_choices(book, lines):
            told.add(tuple(numbers.get(term, term) for term in head))
    return sorted(told)


class Dice:
    """Numbers that look thrown and are the same each time, whatever Python it is."""

    def __init__(self, start):
        self.state = start

    def throw(self, sides):
        self.state = (self.state * 6364136223846793005 + 1442695040888963407) % 2 ** 64
        return (self.state >> 33) % sides

    def pick(self, things):
        return things[self.throw(len(things))]

    def book(self, most_rows, values):
        book = {}
        for table, wide in WIDTHS:
            thrown = [tuple(self.pick(values) for place in range(wide)) for row in range(self.throw(most_rows + 1))]
            if self.throw(8) > 0:
                book[table] = list(dict.fromkeys(thrown))
        return book

    def lines(self, most_lines, terms, widths=WIDTHS):
        told = []
        for k in range(self.throw(most_lines + 1)):
            table, wide = self.pick(widths)
            told.append((table, tuple(self.pick(terms) for place in range(wide))))
        return tuple(told)

    def columns(self, wide, many):
        left = list(range(wide))
        return tuple(left.pop(self.throw(len(left))) for place in range(many))

    def rule(self, widths=WIDTHS):
        table, wide = self.pick(widths)
        if self.throw(2) == 0:
            return ("key", table, tuple(sorted(self.columns(wide, 1 + self.throw(wide)))))
        other, width = self.pick(widths)
        many = 1 + self.throw(min(wide, width))
        return ("points", table, self.columns(wide, many), other, self.columns(width, many), width)

    def rules(self, most, widths=WIDTHS):
        return [self.rule(widths) for k in range(self.throw(most + 1))]


def thrown_cases(many):
    """Books with lines, many of them with matches, alike lines, rings and names that stand twice."""
    dice = Dice(7)
    for k in range(many):
        values = dice.pick([[0, 1], [0, 1, 2], [-1, 0, 10], [-FAR, 2, FAR]])
        terms = NAMES[:dice.pick([2, 3, 4, 5])] * 3 + values[:dice.throw(3)]
        yield dice.book(dice.pick([3, 5, 8]), values), dice.lines(5, terms)


def thrown_questions(many):
    """Books with questions of one to three alternatives, their heads of one length, some of them with numbers."""
    cases = list(thrown_cases(many + 2))
    for k in range(many):
        question = []
        for book, lines in cases[k:k + 1 + k % 3]:
            head = names_told(lines)[::-1] + [1, -FAR, 0]
            question.append((tuple(head[:k % 4]), lines))
        yield cases[k][0], question


def thrown_rings(many):
    """Books with lines of which three to five lie around a ring, or nearly so, perhaps with one or two more."""
    dice = Dice(11)
    for k in range(many):
        around = 3 + k % 3
        told = []
        for place in range(around):
            ends = (NAMES[place], NAMES[(place + 1) % around])
            told.append((dice.pick(["two", "pair"]), ends[::dice.pick([1, -1])]))
        more = dice.lines(6 - around, NAMES[:around] + ["u", "t", 0])
        told = told + list(more)
        turned = dice.throw(len(told))
        values = dice.pick([[0, 1], [0, 1, 2], [0, -FAR, FAR]])
        yield dice.book(dice.pick([5, 9]), values), tuple(told[turned:] + told[:turned])
