"""Rows, plain books, and the class Book, to which rows are put and from which they are dropped."""

from askwithin.errors import Full, NoRow, NoTable
from askwithin.terms import is_name, is_pair, is_value, is_whole, of_one_length

MOST_WIDTH = 6
MOST_TABLES = 12
MOST_ROWS = 60


def is_row(thing):
    if not isinstance(thing, tuple) or not 1 <= len(thing) <= MOST_WIDTH:
        return False
    return all([is_value(value) for value in thing])


def are_rows(thing):
    if not isinstance(thing, list) or len(thing) > MOST_ROWS:
        return False
    # Only rows may go into the set: other things may be of a kind that no set takes.
    if not all([is_row(row) for row in thing]):
        return False
    return of_one_length(thing) and len(set(thing)) == len(thing)


def is_book(thing):
    if not isinstance(thing, dict) or len(thing) > MOST_TABLES:
        return False
    return all([is_name(table) and are_rows(rows) for table, rows in thing.items()])


def is_width(thing):
    return is_whole(thing) and 1 <= thing <= MOST_WIDTH


def are_widths(thing):
    if not isinstance(thing, list) or len(thing) > MOST_TABLES:
        return False
    if not all([is_pair(pair) and is_name(pair[0]) and is_width(pair[1]) for pair in thing]):
        return False
    return len(set([pair[0] for pair in thing])) == len(thing)


class Book:
    # The errors' words don't show what was refused: it may be a thing that can't be written out.

    def __init__(self, widths):
        if not are_widths(widths):
            raise NoTable("a book is made of a list of tables with their widths")
        self.wide = dict(widths)
        self.held = {}
        for table in self.wide:
            self.held[table] = {}

    def want_table(self, table):
        # A thing that is no name may be of a kind that no dict can be asked for.
        if not is_name(table) or table not in self.wide:
            raise NoTable("there is no such table in the book")

    def want_row(self, table, row):
        self.want_table(table)
        if not is_row(row) or len(row) != self.wide[table]:
            raise NoRow("a row is a tuple of as many values as the table is wide")

    def put(self, table, row):
        self.want_row(table, row)
        if row in self.held[table]:
            return False
        if len(self.held[table]) >= MOST_ROWS:
            raise Full("the table has as many rows as it may have")
        self.held[table][row] = True
        return True

    def drop(self, table, row):
        self.want_row(table, row)
        if row not in self.held[table]:
            return False
        self.held[table].pop(row)
        return True

    def has(self, table, row):
        self.want_row(table, row)
        return row in self.held[table]

    def rows(self, table):
        self.want_table(table)
        return sorted(self.held[table])

    def tables(self):
        return sorted(self.wide)

    def width(self, table):
        self.want_table(table)
        return self.wide[table]

    def size(self):
        return sum([len(rows) for rows in self.held.values()])

    def plain(self):
        book = {}
        for table in self.tables():
            book[table] = self.rows(table)
        return book
