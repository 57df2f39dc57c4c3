"""The walk: which rows fit a line, and the matches and answers that are found by walking all rows."""

from askwithin.errors import TooMany
from askwithin.terms import names_of, put_in

MOST_WAYS = 4096


def fits(line, row, known):
    if len(row) != len(line[1]):
        return None
    found = dict(known)
    for term, number in zip(line[1], row):
        wanted = found.setdefault(term, number) if isinstance(term, str) else term
        if number != wanted:
            return None
    return found


def rows_of(book, line):
    return book.get(line[0], [])


def ways_of(rows):
    number = 1
    for own in rows:
        number = number * max(1, len(own))
    return number


def ways(book, lines):
    return ways_of([rows_of(book, line) for line in lines])


def refuse_rows(rows):
    if ways_of(rows) > MOST_WAYS:
        raise TooMany("there are too many ways to walk these lines")


def refuse_ways(book, lines):
    refuse_rows([rows_of(book, line) for line in lines])


def extended(found, line, rows):
    told = []
    for known in found:
        for row in rows:
            more = fits(line, row, known)
            if more is not None:
                told.append(more)
    return told


def walked(lines, rows):
    # Line by line, not call within call: so no number of lines is too deep.
    found = [{}]
    for line, own in zip(lines, rows):
        found = extended(found, line, own)
    return found


def matches_of(lines, found):
    names = names_of(lines)
    return sorted([put_in(names, known) for known in found])


def matches(book, lines):
    refuse_ways(book, lines)
    return matches_of(lines, walked(lines, [rows_of(book, line) for line in lines]))


def answers_of(alternative, found):
    names = names_of(alternative[1])
    return [put_in(alternative[0], dict(zip(names, numbers))) for numbers in found]


def answers(book, question):
    # All alternatives are looked at ahead of the first one's walk: the refusal goes ahead of all work.
    for alternative in question:
        refuse_ways(book, alternative[1])
    told = []
    for alternative in question:
        told.extend(answers_of(alternative, matches(book, alternative[1])))
    return sorted(set(told))
