"""The desk: a book, rules and questions by names, told and asked by rows of text."""

from askwithin.books import MOST_TABLES, MOST_WIDTH, Book
from askwithin.errors import Full, NoDeed, NoName, NoTable, NoText
from askwithin.inside import same, within
from askwithin.least import least
from askwithin.papers import why
from askwithin.rules import keeps
from askwithin.terms import is_name, names_of, tables_of
from askwithin.texts import read_question, read_row, read_rule, show_question, show_row
from askwithin.thin import many, plan_answers
from askwithin.trees import ring
from askwithin.walk import answers

MOST_RULES = 6
MOST_QUESTIONS = 8
# The last word of these is all that follows: blanks that stand in it don't part it.
WITH_TEXT = ("rule", "ask", "put", "drop", "why")
# At least and at most so many words behind the first: the row without values goes without a word for it.
WORDS = {
    "table": (2, 2), "rule": (1, 1), "ask": (2, 2), "least": (2, 2), "put": (2, 2), "drop": (2, 2), "rows": (1, 1),
    "show": (1, 1), "answers": (1, 1), "plan": (1, 1), "many": (1, 1), "ring": (1, 1), "within": (2, 2),
    "same": (2, 2), "why": (1, 2), "rules": (0, 0),
}


def words_of(row):
    if not isinstance(row, str):
        raise NoDeed("a row that is told to a desk is a text")
    words = row.split(" ")
    if words[0] not in WORDS:
        raise NoDeed("a row begins with a word that the desk knows")
    bounds = WORDS[words[0]]
    if words[0] in WITH_TEXT:
        words = row.split(" ", bounds[1])
    if not bounds[0] <= len(words) - 1 <= bounds[1]:
        raise NoDeed("a row has as many words as its first one wants")
    return words


def question_by(desk, name):
    if name not in desk.questions:
        raise NoName("no question stands by this name")
    return desk.questions[name]


def want_new_name(word):
    if not is_name(word):
        raise NoText("a question stands by a name")


def keep_question(desk, name, question):
    if name not in desk.questions and len(desk.questions) >= MOST_QUESTIONS:
        raise Full("the desk has as many questions as it may have")
    desk.questions[name] = question


def want_width(book, table, width):
    if book.width(table) != width:
        raise NoTable("the table is of another width")


def want_columns(book, table, columns):
    if book.width(table) <= max(columns):
        raise NoTable("the table isn't wide enough for the rule")


def show_rows(rows):
    if rows == [()]:
        return "yes"
    return "; ".join([show_row(row) for row in rows]) if len(rows) > 0 else "no rows"


def show_all(words):
    return " ".join(words) if len(words) > 0 else "none"


def with_table(book, table, width):
    wider = Book([(own, book.width(own)) for own in book.tables()] + [(table, width)])
    for own in book.tables():
        for row in book.rows(own):
            wider.put(own, row)
    return wider


def say_table(desk, words):
    widths = [str(width) for width in range(1, MOST_WIDTH + 1)]
    if not is_name(words[0]) or words[1] not in widths:
        raise NoText("a table has a name and a width")
    tables = desk.book.tables()
    if words[0] in tables:
        raise NoTable("the table stands already")
    if len(tables) >= MOST_TABLES:
        raise Full("the desk has as many tables as it may have")
    desk.book = with_table(desk.book, words[0], int(words[1]))
    return "ok"


def say_rule(desk, words):
    rule = read_rule(words[0])
    want_columns(desk.book, rule[1], rule[2])
    if rule[0] == "points":
        want_width(desk.book, rule[3], rule[5])
    if len(desk.rules) >= MOST_RULES:
        raise Full("the desk has as many rules as it may have")
    desk.rules.append(rule)
    return "ok"


def say_ask(desk, words):
    want_new_name(words[0])
    question = read_question(words[1])
    for alternative in question:
        for table, width in tables_of(alternative[1]):
            want_width(desk.book, table, width)
    keep_question(desk, words[0], question)
    return "ok"


def say_least(desk, words):
    question = question_by(desk, words[1])
    want_new_name(words[0])
    keep_question(desk, words[0], least(question, desk.rules))
    return "ok"


def say_put(desk, words):
    row = read_row(words[1])
    return "new" if desk.book.put(words[0], row) else "old"


def say_drop(desk, words):
    row = read_row(words[1])
    return "gone" if desk.book.drop(words[0], row) else "none"


def say_rows(desk, words):
    return show_rows(desk.book.rows(words[0]))


def say_show(desk, words):
    return show_question(question_by(desk, words[0]))


def say_answers(desk, words):
    return show_rows(answers(desk.book.plain(), question_by(desk, words[0])))


def say_plan(desk, words):
    return show_rows(plan_answers(desk.book.plain(), question_by(desk, words[0])))


def say_many(desk, words):
    book = desk.book.plain()
    return show_all([str(many(book, alternative[1])) for alternative in question_by(desk, words[0])])


def show_ring(numbers):
    return "-".join([str(k) for k in numbers]) if len(numbers) > 0 else "tree"


def say_ring(desk, words):
    return show_all([show_ring(ring(alternative[1])) for alternative in question_by(desk, words[0])])


def say_within(desk, words):
    told = within(question_by(desk, words[0]), question_by(desk, words[1]), desk.rules)
    if told[0] == "not" and len(told[3]) > 0:
        return "not " + show_row(told[3])
    return told[0]


def say_same(desk, words):
    return same(question_by(desk, words[0]), question_by(desk, words[1]), desk.rules)


def say_why(desk, words):
    question = question_by(desk, words[0])
    row = read_row(words[1]) if len(words) > 1 else ()
    told = why(desk.book.plain(), question, row)
    if told is None:
        return "no"
    names = names_of(question[told[0]][1])
    known = [name + "=" + str(number) for name, number in zip(names, told[1])]
    return " ".join(["yes", str(told[0])] + known)


def say_rules(desk, words):
    book = desk.book.plain()
    return show_all(["kept" if keeps(book, [rule]) else "broken" for rule in desk.rules])


DEEDS = {
    "table": say_table, "rule": say_rule, "ask": say_ask, "least": say_least, "put": say_put, "drop": say_drop,
    "rows": say_rows, "show": say_show, "answers": say_answers, "plan": say_plan, "many": say_many, "ring": say_ring,
    "within": say_within, "same": say_same, "why": say_why, "rules": say_rules,
}


class Desk:
    def __init__(self):
        self.book = Book([])
        self.rules = []
        self.questions = {}

    def say(self, row):
        words = words_of(row)
        deed = DEEDS[words[0]]
        return deed(self, words[1:])
