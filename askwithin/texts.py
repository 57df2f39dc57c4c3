"""Texts: rows, questions and rules, as they are written and as they are read."""

from askwithin.books import is_row
from askwithin.errors import NoText
from askwithin.rules import is_rule
from askwithin.terms import FIGURES, is_question

MOST_FIGURES = 70


def show_words(words):
    return " ".join([str(word) for word in words])


def show_row(row):
    return show_words(row)


def show_line(line):
    return show_words((line[0],) + line[1])


def show_alternative(alternative):
    head = show_words(alternative[0] + (":",))
    if len(alternative[1]) == 0:
        return head
    return head + " " + ", ".join([show_line(line) for line in alternative[1]])


def show_question(question):
    if len(question) == 0:
        return "none"
    return " | ".join([show_alternative(alternative) for alternative in question])


def show_rule(rule):
    if rule[0] == "key":
        return show_words(("key", rule[1]) + rule[2])
    return show_words(("points", rule[1]) + rule[2] + ("to", rule[3]) + rule[4] + ("of", rule[5]))


def whole_of(word):
    figures = word[1:] if word.startswith("-") else word
    # Python reads figures of other scripts, too, and refuses very many of them in its own way.
    if not 1 <= len(figures) <= MOST_FIGURES or not all([sign in FIGURES for sign in figures]):
        return None
    return int(word)


def wholes_of(words):
    return tuple([whole_of(word) for word in words])


def row_of(text):
    return wholes_of(text.split(" "))


def term_of(word):
    number = whole_of(word)
    return word if number is None else number


def terms_of(words):
    return tuple([term_of(word) for word in words])


def line_of(text):
    words = text.split(" ")
    return (words[0], terms_of(words[1:]))


def alternative_of(text):
    parts = text.partition(":")
    head = terms_of(parts[0].split(" ")[:-1])
    if parts[2] == "":
        return (head, ())
    return (head, tuple([line_of(part) for part in parts[2][1:].split(", ")]))


def question_of(text):
    if text == "none":
        return []
    return [alternative_of(part) for part in text.split(" | ")]


def rule_of(text):
    words = text.split(" ")
    if words[0] == "key":
        return tuple(words[:2]) + (wholes_of(words[2:]),)
    # Both tables have as many columns, so the number of words tells where they stand.
    many = (len(words) - 6) // 2
    if many < 1:
        return ()
    columns = wholes_of(words[2:many + 2])
    others = wholes_of(words[many + 4:2 * many + 4])
    return (words[0], words[1], columns, words[many + 3], others, whole_of(words[-1]))


def read_by(text, thing_of, is_one, show):
    if isinstance(text, str):
        thing = thing_of(text)
        # What was read is written again: a text is taken just where it is what something is written as.
        if is_one(thing) and show(thing) == text:
            return thing
    raise NoText("nothing of the kind that is wanted is written so")


def read_row(text):
    return read_by(text, row_of, is_row, show_row)


def read_question(text):
    return read_by(text, question_of, is_question, show_question)


def read_rule(text):
    return read_by(text, rule_of, is_rule, show_rule)
