"""The promise over the whole program (point 3), over thrown questions, rules and books."""

import itertools
import unittest

from things import (
    LONG, Dice, names_told, thrown_pairs, thrown_rings, tried_answers, tried_chase, tried_matches, tried_rows,
)

from askwithin.books import is_book
from askwithin.chase import chase
from askwithin.inside import frozen, same, within
from askwithin.least import least, needed
from askwithin.papers import holds, told, why
from askwithin.rules import broken, keeps
from askwithin.thin import least_match, many, plan_answers, plan_matches, thinned
from askwithin.trees import ears, is_tree, ring
from askwithin.walk import answers, matches, ways


def mended(book, rules):
    """What is left of a book when rows are dropped until it keeps the rules."""
    left = {table: list(own) for table, own in book.items()}
    while not keeps(left, rules):
        number, row = broken(left, rules)[0][:2]
        left[rules[number][1]].remove(row)
    return left


def joined_books(*books):
    told = {}
    for book in books:
        for table, own in book.items():
            told[table] = list(dict.fromkeys(told.get(table, []) + own))
    return told


def kept_books(dice, question, rules):
    """Books that keep the rules: thrown ones, and ones in which the question, as chased, has an answer."""
    values = dice.pick([[0, 1], [0, 1, -LONG], [1, 2, 3]])
    thrown = dice.book(dice.pick([2, 4]), values)
    told = [mended(thrown, rules)]
    for alternative in question:
        word, chased, steps = chase(alternative, rules)
        if word != "clash":
            # Some names are frozen as the thrown rows' own numbers.
            book, row = frozen(chased, dice.pick([1, 1, 5]))
            told += [mended(book, rules), mended(joined_books(book, thrown), rules)]
    return told


def thrown_whole(many_pairs):
    """Two questions with rules and a book that keeps them, on which no walk is refused."""
    dice = Dice(41)
    for one, other, rules in thrown_pairs(many_pairs):
        for book in kept_books(dice, one + other, rules):
            if all(ways(book, lines) <= 4096 for head, lines in one + other):
                yield one, other, rules, book


class TestWhole(unittest.TestCase):
    def test_the_books_keep_the_rules(self):
        for one, other, rules, book in thrown_whole(200):
            self.assertTrue(is_book(book) and keeps(book, rules))

    def test_told_to_be_within_only_where_each_answer_is_one(self):
        seen = 0
        for one, other, rules, book in thrown_whole(600):
            if within(one, other, rules)[0] == "within":
                for ask in (answers, plan_answers):
                    own = ask(book, one)
                    self.assertLessEqual(set(own), set(ask(book, other)), (one, other, rules, book))
                seen += len(own) > 0
        self.assertGreater(seen, 250)

    def test_told_to_be_within_under_rules_alone(self):
        """Cases that are told to be within by the rules, and not to be without them."""
        seen = 0
        for one, other, rules, book in thrown_whole(1500):
            if rules and within(one, other)[0] == "not" and within(one, other, rules)[0] == "within":
                own = tried_answers(book, one)
                self.assertLessEqual(set(own), set(tried_answers(book, other)), (one, other, rules, book))
                seen += len(own) > 0
        self.assertGreater(seen, 20)

    def test_told_not_to_be_within_only_with_a_book_that_parts_the_two(self):
        seen = 0
        for one, other, rules in thrown_pairs(1200):
            told_of = within(one, other, rules)
            if told_of[0] == "not":
                number, book, row = told_of[1:]
                self.assertTrue(is_book(book) and keeps(book, rules))
                for ask in (answers, plan_answers):
                    self.assertIn(row, ask(book, one))
                    self.assertNotIn(row, ask(book, other))
                self.assertEqual(told(book, one, row)[0], "yes")
                self.check_papers(book, other, row)
                seen += len(rules) > 0
        self.assertGreater(seen, 100)

    def check_papers(self, book, question, row):
        word, papers = told(book, question, row)
        self.assertEqual((word, len(papers)), ("no", len(question)))
        for alternative, paper in zip(question, papers):
            self.assertIs(holds(book, alternative, row, paper), True)

    def test_told_open_only_where_a_chase_has_passed_its_bounds(self):
        seen = 0
        for one, other, rules in thrown_pairs(2000):
            told_of = within(one, other, rules)
            if told_of[0] == "open":
                words = [tried_chase(one[number], rules)[0] for number in told_of[1]]
                self.assertEqual(set(words), {"past"})
                seen += 1
            self.assertIn(within(one, other)[0], ("within", "not"))
        self.assertGreater(seen, 20)

    def test_the_same_answers_where_two_ask_the_same(self):
        for one, other, rules, book in thrown_whole(400):
            word = same(one, other, rules)
            if word == "yes":
                self.assertEqual(answers(book, one), answers(book, other), (one, other, rules, book))
            if answers(book, one) != answers(book, other):
                self.assertNotEqual(word, "yes")

    def test_the_least_question_has_the_same_answers(self):
        shorter = 0
        for one, other, rules, book in thrown_whole(200):
            short = least(one, rules)
            self.assertEqual(answers(book, short), answers(book, one), (one, rules, book))
            self.assertEqual(plan_answers(book, short), plan_answers(book, one))
            for own, lines in needed(short, rules):
                self.assertNotIn("within", [own[0]] + [line[0] for line in lines])
            shorter += short != one
        self.assertGreater(shorter, 100)

    def test_the_plan_tells_what_the_walk_tells(self):
        for one, other, rules, book in thrown_whole(250):
            for question in (one, other):
                self.assertEqual(plan_answers(book, question), answers(book, question))
                for head, lines in question:
                    found = matches(book, lines)
                    self.assertEqual(plan_matches(book, lines), found)
                    self.assertEqual(many(book, lines), len(found))
                    self.assertEqual(least_match(book, lines), (found + [None])[0])

    def test_thinning_leaves_just_the_rows_that_take_part(self):
        for one, other, rules, book in thrown_whole(200):
            for head, lines in one + other:
                self.assertEqual(thinned(book, lines), tried_rows(book, lines), (book, lines))
                self.assertEqual(matches(book, lines), tried_matches(book, lines))

    def test_why_for_each_answer_and_papers_for_other_rows(self):
        for one, other, rules, book in thrown_whole(200):
            own = answers(book, one)
            for row in own[:5] + answers(book, other)[:5]:
                if row in own:
                    number, numbers = why(book, one, row)
                    head, lines = one[number]
                    put = dict(zip(names_told(lines), numbers, strict=True))
                    self.assertEqual(tuple(put.get(term, term) for term in head), row)
                    self.assertIn(numbers, matches(book, lines))
                else:
                    self.assertIsNone(why(book, one, row))
                    self.check_papers(book, one, row)

    def test_where_lines_make_a_ring_no_tree_holds_each_name_together(self):
        rings = 0
        asked = [lines for one, other, rules in thrown_pairs(300) for head, lines in one]
        for lines in asked + [lines for book, lines in thrown_rings(100)]:
            if not ring(lines):
                self.assertIs(is_tree(lines, ears(lines)[0]), True)
            elif len(lines) < 5:
                pairs = list(itertools.combinations(range(len(lines)), 2))
                for ties in itertools.combinations(pairs, len(lines) - 1):
                    self.assertIs(is_tree(lines, list(ties)), False)
                rings += 1
        self.assertGreater(rings, 20)


if __name__ == "__main__":
    unittest.main()
