"""Rules: keys and pointings, and where a book breaks them."""

from askwithin.books import MOST_WIDTH, is_width
from askwithin.terms import is_name, is_whole


def are_columns(thing):
    if not isinstance(thing, tuple) or not 1 <= len(thing) <= MOST_WIDTH:
        return False
    # Only whole numbers may go into the set: other things may be of a kind that no set takes.
    if not all([is_whole(column) and 0 <= column < MOST_WIDTH for column in thing]):
        return False
    return len(set(thing)) == len(thing)


def is_key(thing):
    if len(thing) != 3 or not is_name(thing[1]) or not are_columns(thing[2]):
        return False
    return list(thing[2]) == sorted(thing[2])


def is_pointing(thing):
    if len(thing) != 6 or not is_name(thing[1]) or not is_name(thing[3]):
        return False
    if not are_columns(thing[2]) or not are_columns(thing[4]) or not is_width(thing[5]):
        return False
    if len(thing[2]) != len(thing[4]) or max(thing[4]) >= thing[5]:
        return False
    return thing[1] != thing[3] or max(thing[2]) < thing[5]


def is_rule(thing):
    # A thing in the word's place may be of a kind that can't be compared.
    if not isinstance(thing, tuple) or len(thing) == 0 or not isinstance(thing[0], str):
        return False
    if thing[0] == "key":
        return is_key(thing)
    return thing[0] == "points" and is_pointing(thing)


def picked(values, columns):
    return tuple([values[column] for column in columns])


def broken_key(number, rule, book):
    rows = sorted(book.get(rule[1], []))
    found = []
    for place, row in enumerate(rows):
        wanted = picked(row, rule[2])
        found.extend([(number, row, other) for other in rows[place + 1:] if picked(other, rule[2]) == wanted])
    return found


def broken_pointing(number, rule, book):
    met = dict([(picked(row, rule[4]), True) for row in book.get(rule[3], [])])
    return [(number, row) for row in sorted(book.get(rule[1], [])) if picked(row, rule[2]) not in met]


def broken(book, rules):
    found = []
    for number, rule in enumerate(rules):
        if rule[0] == "key":
            found.extend(broken_key(number, rule, book))
        else:
            found.extend(broken_pointing(number, rule, book))
    return found


def keeps(book, rules):
    return len(broken(book, rules)) == 0
