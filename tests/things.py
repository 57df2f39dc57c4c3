"""What the tests share: test cases for what is told and refused, things of many kinds, and answers found by trying."""

import copy
import itertools
import unittest

from askwithin.errors import AskError, TooMany

WIDTHS = [("one", 1), ("two", 2), ("pair", 2), ("three", 3)]
NAMES = ["x", "y", "z", "w", "v"]
FAR = int("9" * 70)
LONG = int("9" * 60)


class Asking(unittest.TestCase):
    def yes(self, ask, *things):
        for place, thing in enumerate(things):
            self.assertIs(ask(thing), True, f"thing {place} of {ask.__name__}")

    def no(self, ask, *things):
        for place, thing in enumerate(things):
            self.assertIs(ask(thing), False, f"thing {place} of {ask.__name__}")


class Sulky:
    """An object that answers nothing: whoever compares, hashes or measures it fails."""

    __slots__ = ()

    def refuse(self, *others):
        raise RuntimeError("this object was asked something")

    __eq__ = __ne__ = __lt__ = __gt__ = __le__ = __ge__ = refuse
    __hash__ = __bool__ = __len__ = __iter__ = __getitem__ = refuse
    __contains__ = __abs__ = __int__ = __index__ = __str__ = __repr__ = refuse


def loop():
    """A list that holds itself."""
    own = []
    own.append(own)
    return own


def deep():
    """A tuple so deep that neither hash nor comparison may walk down into it."""
    inner = ()
    for step in range(5000):
        inner = (inner,)
    return inner


def odd_things():
    """Of none of them anything is told to be one: no value, name, line, row, book or widths."""
    return [
        None, True, False, 1.5, float("nan"), float("inf"), 2j, b"a", bytearray(b"a"),
        10 ** 5000, -(10 ** 5000), "", " ", "A", "a b", "a\n", "-", "0", "\u00e9", "\ud800", "a" * 5000,
        (), ((),), ([],), ({},), (None, None), (1.0, 2), (Sulky(), Sulky()), (set(), set()),
        [()], [[]], [None], [Sulky()], [{}], ["a"], ["a", 1], [("a",)],
        {1: []}, {"a": None}, {"a": ()}, {"A": []}, {(): []}, {None: []},
        set(), {1, 2}, frozenset(), range(3), object(), int, len, Sulky(), Sulky,
        iter([]), (sign for sign in "ab"), memoryview(b"a"), loop(), deep(), NotImplemented, ...,
    ]


class Unwalked(list):
    """A list of rows that may be measured, not walked."""

    def __iter__(self):
        raise RuntimeError("these rows were walked")

    def __deepcopy__(self, memo):
        return self


class Refusing(unittest.TestCase):
    def too_many(self, ask, *things):
        """Refused by TooMany itself, with all that was handed in as it was."""
        before = copy.deepcopy(things)
        with self.assertRaises(AskError) as taken:
            ask(*things)
        self.assertIs(type(taken.exception), TooMany)
        self.assertIsInstance(taken.exception, ValueError)
        self.assertEqual(things, before)

    def unchanged(self, ask, *things):
        """Tells what is told, asked twice, with all that was handed in as it was, orders too."""
        before = repr(things)
        first = ask(*things)
        shown = repr(first)
        self.assertEqual(repr(ask(*things)), shown)
        self.assertEqual(repr(things), before)
        self.assertEqual(repr(first), shown)
        return first


def line(table, *terms):
    return (table, terms)


def rows(many, wide=1):
    """As many rows, told from the last to the first."""
    return [(k,) * wide for k in reversed(range(many))]


def names_told(lines):
    return list(dict.fromkeys(term for table, terms in lines for term in terms if isinstance(term, str)))


def wheel(lengths):
    """A book with a table of two places for each length, and lines of them around a ring."""
    book = {f"t{k}": [(j, j) for j in reversed(range(length))] for k, length in enumerate(lengths)}
    return book, tuple(line(f"t{k}", f"x{k}", f"x{(k + 1) % len(lengths)}") for k in range(len(lengths)))


def numbers_for(lines, chosen):
    """The numbers, by names, that make these rows of the lines, or None."""
    numbers = {}
    for (table, terms), row in zip(lines, chosen, strict=True):
        if len(terms) != len(row):
            return None
        for term, number in zip(terms, row):
            if number != (numbers.setdefault(term, number) if isinstance(term, str) else term):
                return None
    return numbers


def row_choices(book, lines):
    """By trying all rows for all lines: for each match its numbers by names, and the rows that the lines become."""
    for chosen in itertools.product(*[book.get(table, []) for table, terms in lines]):
        numbers = numbers_for(lines, chosen)
        if numbers is not None:
            yield numbers, chosen


def tried_matches(book, lines):
    names = names_told(lines)
    return sorted({tuple(numbers[name] for name in names) for numbers, chosen in row_choices(book, lines)})


def tried_rows(book, lines):
    kept = [set() for line in lines]
    for numbers, chosen in row_choices(book, lines):
        for own, row in zip(kept, chosen):
            own.add(row)
    return [sorted(own) for own in kept]


def tried_answers(book, question):
    told = set()
    for head, lines in question:
        for numbers, chosen in row_choices(book, lines):
            told.add(tuple(numbers.get(term, term) for term in head))
    return sorted(told)


def tried_why(book, question, row):
    for number, (head, lines) in enumerate(question):
        found = []
        for numbers, chosen in row_choices(book, lines):
            if tuple(numbers.get(term, term) for term in head) == row:
                found.append(tuple(numbers[name] for name in names_told(lines)))
        if found:
            return (number, min(found))
    return None


def is_text(term):
    return isinstance(term, str)


def tried_right(lines, step, rules):
    """What the document says of a step that may be taken, word for word, of steps whose parts are of the right kind."""
    word, number, i = step[:3]
    if number >= len(rules) or i >= len(lines):
        return False
    rule, (table, terms) = rules[number], lines[i]
    if word == "put":
        if rule[0] != "points" or rule[1] != table:
            return False
        pairs = list(zip(rule[2], rule[4], strict=True))
        return not any(own == rule[3] and all(terms[k] == others[m] for k, m in pairs) for own, others in lines)
    j, column = step[3:]
    if rule[0] != "key" or not i < j or j >= len(lines) or rule[1] != table or rule[1] != lines[j][0]:
        return False
    others = lines[j][1]
    if any(terms[k] != others[k] for k in rule[2]) or column >= len(terms) or terms[column] == others[column]:
        return False
    return (word == "clash") == (not is_text(terms[column]) and not is_text(others[column]))


def tried_steps(lines, rules):
    """All steps, right or not, with numbers somewhat beyond what is there."""
    numbers, places, columns = range(len(rules) + 1), range(len(lines) + 1), range(4)
    for word in ("same", "clash"):
        yield from itertools.product((word,), numbers, places, places, columns)
    yield from itertools.product(("put",), numbers, places)


def tried_due(lines, rules):
    right = [step for step in tried_steps(lines, rules) if tried_right(lines, step, rules)]
    by_keys = sorted([step for step in right if step[0] != "put"], key=lambda step: step[1:])
    puts = sorted([step for step in right if step[0] == "put"], key=lambda step: (step[2], step[1]))
    return (by_keys + puts + [None])[0]


def tried_behind(alternative, step, rules):
    """The alternative behind a step that is right."""
    head, lines = alternative
    if step[0] == "clash":
        return alternative
    rule = rules[step[1]]
    terms = lines[step[2]][1]
    if step[0] == "put":
        taken = set(head) | {term for own, others in lines for term in others}
        fresh = (name for name in (f"n{k}" for k in itertools.count(1)) if name not in taken)
        given = dict(zip(rule[4], [terms[k] for k in rule[2]]))
        return (head, lines + ((rule[3], tuple(given[k] if k in given else next(fresh) for k in range(rule[5]))),))
    s, t = terms[step[4]], lines[step[3]][1][step[4]]
    old, new = (s, t) if is_text(s) and not is_text(t) else (t, s)
    put = [(own, tuple(new if term == old else term for term in others)) for own, others in lines]
    return (tuple(new if term == old else term for term in head), tuple(dict.fromkeys(put)))


def tried_chase(alternative, rules):
    stands = (alternative[0], tuple(dict.fromkeys(alternative[1])))
    steps = []
    while True:
        step = tried_due(stands[1], rules)
        if step is None:
            return ("still", stands, steps)
        if step[0] == "clash":
            return ("clash", stands, steps + [step])
        if step[0] == "put":
            there = [table for table, terms in stands[1]].count(rules[step[1]][3])
            if there >= 5 or [taken[0] for taken in steps].count("put") >= 16:
                return ("past", stands, steps)
        stands = tried_behind(stands, step, rules)
        steps.append(step)


def tried_frozen(alternative, above):
    head, lines = alternative
    numbers = {name: above + 1 + k for k, name in enumerate(names_told(lines))}
    book = {}
    for table, terms in lines:
        book.setdefault(table, set()).add(tuple(numbers.get(term, term) for term in terms))
    return {table: sorted(own) for table, own in book.items()}, tuple(numbers.get(term, term) for term in head)


def tried_alone(alternative, other, rules, above):
    """What the document says of an alternative by itself: its paper, or ("not", book, row), or ("open",)."""
    word, chased, steps = tried_chase(alternative, rules)
    if word == "clash":
        return ("clash", steps)
    book, row = tried_frozen(chased, above)
    found = tried_why(book, other, row)
    if found is None:
        return ("not", book, row) if word == "still" else ("open",)
    number, match = found
    terms = dict(enumerate(names_told(chased[1]), start=above + 1))
    pairs = list(zip(names_told(other[number][1]), [terms.get(own, own) for own in match], strict=True))
    return ("map", number, pairs, steps)


def tried_within(one, other, rules):
    terms = [term for head, lines in one + other for part in [head] + [own[1] for own in lines] for term in part]
    above = max([0] + [term for term in terms if not is_text(term)])
    told = [tried_alone(alternative, other, rules, above) for alternative in one]
    for word in ("not", "open"):
        numbers = [number for number, own in enumerate(told) if own[0] == word]
        if numbers:
            return ("not", numbers[0]) + told[numbers[0]][1:] if word == "not" else ("open", numbers)
    return ("within", told)


class Dice:
    """Numbers that look thrown and are the same each time, whatever Python it is."""

    def __init__(self, start):
        self.state = start

    def throw(self, sides):
        self.state = (self.state * 6364136223846793005 + 1442695040888963407) % 2 ** 64
        return (self.state >> 33) % sides

    def pick(self, things):
        return things[self.throw(len(things))]

    def book(self, most_rows, values):
        book = {}
        for table, wide in WIDTHS:
            thrown = [tuple(self.pick(values) for place in range(wide)) for row in range(self.throw(most_rows + 1))]
            if self.throw(8) > 0:
                book[table] = list(dict.fromkeys(thrown))
        return book

    def lines(self, most_lines, terms, widths=WIDTHS):
        told = []
        for k in range(self.throw(most_lines + 1)):
            table, wide = self.pick(widths)
            told.append((table, tuple(self.pick(terms) for place in range(wide))))
        return tuple(told)

    def columns(self, wide, many):
        left = list(range(wide))
        return tuple(left.pop(self.throw(len(left))) for place in range(many))

    def rule(self, widths=WIDTHS):
        table, wide = self.pick(widths)
        if self.throw(2) == 0:
            return ("key", table, tuple(sorted(self.columns(wide, 1 + self.throw(wide)))))
        other, width = self.pick(widths)
        many = 1 + self.throw(min(wide, width))
        return ("points", table, self.columns(wide, many), other, self.columns(width, many), width)

    def rules(self, most, widths=WIDTHS):
        return [self.rule(widths) for k in range(self.throw(most + 1))]

    def loosened(self, alternative):
        """An alternative of which the given one's answers are answers, too, whatever the rules are."""
        head, lines = alternative
        told = []
        for table, terms in lines:
            if self.throw(4) > 0:
                told.append((table, tuple(f"l{self.throw(30)}" if self.throw(6) == 0 else term for term in terms)))
        if self.throw(2) == 0:
            told = told[::-1]
        # A name of the head that stands nowhere any more would make it no alternative.
        return (head, tuple(told)) if set(filter(is_text, head)) <= set(names_told(told)) else alternative

    def alternative(self, length, terms, widths):
        lines = self.lines(5, terms, widths) or self.lines(5, terms, widths)
        own = names_told(lines) * 3 + [0, 1]
        return (tuple(self.pick(own) for place in range(length)), lines)

    def question(self, length, terms, widths):
        return [self.alternative(length, terms, widths) for k in range(self.pick([0, 1, 1, 2, 2, 3]))]


def thrown_cases(many):
    """Books with lines, many of them with matches, alike lines, rings and names that stand twice."""
    dice = Dice(7)
    for k in range(many):
        values = dice.pick([[0, 1], [0, 1, 2], [-1, 0, 10], [-FAR, 2, FAR]])
        terms = NAMES[:dice.pick([2, 3, 4, 5])] * 3 + values[:dice.throw(3)]
        yield dice.book(dice.pick([3, 5, 8]), values), dice.lines(5, terms)


def thrown_questions(many):
    """Books with questions of one to three alternatives, their heads of one length, some of them with numbers."""
    cases = list(thrown_cases(many + 2))
    for k in range(many):
        question = []
        for book, lines in cases[k:k + 1 + k % 3]:
            head = names_told(lines)[::-1] + [1, -FAR, 0]
            question.append((tuple(head[:k % 4]), lines))
        yield cases[k][0], question


def thrown_rings(many):
    """Books with lines of which three to five lie around a ring, or nearly so, perhaps with one or two more."""
    dice = Dice(11)
    for k in range(many):
        around = 3 + k % 3
        told = []
        for place in range(around):
            ends = (NAMES[place], NAMES[(place + 1) % around])
            told.append((dice.pick(["two", "pair"]), ends[::dice.pick([1, -1])]))
        more = dice.lines(6 - around, NAMES[:around] + ["u", "t", 0])
        told = told + list(more)
        turned = dice.throw(len(told))
        values = dice.pick([[0, 1], [0, 1, 2], [0, -FAR, FAR]])
        yield dice.book(dice.pick([5, 9]), values), tuple(told[turned:] + told[:turned])


def thrown_pairs(many):
    """Two questions each with rules, the second often loosened from the first, some with heads of unlike lengths."""
    dice = Dice(19)
    for k in range(many):
        widths = dice.pick([WIDTHS[1:2], WIDTHS[1:3], WIDTHS[:2], WIDTHS])
        terms = dice.pick([NAMES[:2], NAMES[:3], NAMES, ["n1", "x", "n2"]]) + [0, 1, -LONG, 1, 0][:dice.throw(6)]
        length = dice.pick([0, 0, 1, 1, 2])
        one = dice.question(length, terms, widths)
        other = dice.question(length if dice.throw(12) else 3, terms, widths)
        if dice.throw(2) > 0:
            other = (other[:1] if dice.throw(4) == 0 else []) + [dice.loosened(alternative) for alternative in one]
            other = [alternative for alternative in other if len(alternative[0]) == length][:3]
        yield one, other, dice.rules(dice.pick([0, 2, 6, 6]), widths)
