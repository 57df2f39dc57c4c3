import copy
import unittest

from things import (
    FAR, NAMES, WIDTHS, Dice, Refusing, line, names_told, odd_things, tried_behind, tried_chase, tried_due,
    tried_right, tried_steps,
)

from askwithin.chase import behind, chase, due
from askwithin.rules import is_rule, keeps

KEY = ("key", "t", (0,))
DEEP = ("points", "t", (1,), "t", (0,), 2)
ROUND = [("points", f"t{k}", (1,), f"t{(k + 1) % 6}", (0,), 2) for k in range(6)]


def book_of(lines):
    """A book in which each name is a number of its own, far from all others."""
    numbers = {name: 1000 + k for k, name in enumerate(names_told(lines))}
    book = {}
    for table, terms in lines:
        book.setdefault(table, []).append(tuple(numbers.get(term, term) for term in terms))
    return book


def thrown_alternatives(many):
    """Alternatives with rules, some of them with alike lines, with names like new ones and with numbers."""
    dice = Dice(13)
    for k in range(many):
        widths = dice.pick([WIDTHS, WIDTHS[1:3], WIDTHS[2:], WIDTHS[3:], WIDTHS[1:2]])
        names = dice.pick([NAMES[:2], NAMES[:3], NAMES, ["n1", "n3", "x"], ["n2", "n1"]])
        terms = names + [0, 1, -FAR, 0, 1][:dice.throw(6)]
        lines = dice.lines(5, terms, widths)
        lines = lines if len(lines) > 1 else dice.lines(5, terms, widths)
        own = names_told(lines)[::-1] + [1]
        yield (tuple(own[:dice.throw(4)]), lines), dice.rules(dice.pick([3, 6, 6]), widths)


def once_told(alternative):
    return (alternative[0], tuple(dict.fromkeys(alternative[1])))


def town_lines(many):
    return tuple(line("t", f"x{k}", f"y{k}") for k in range(many))


class TestDue(Refusing):
    def told(self, lines, rules, head=()):
        return self.unchanged(due, (head, lines), rules)

    def test_same_and_clash(self):
        self.assertEqual(self.told((line("t", "x", "y"), line("t", "x", "z")), [KEY]), ("same", 0, 0, 1, 1))
        self.assertEqual(self.told((line("t", "x", 1), line("t", "x", "z")), [KEY]), ("same", 0, 0, 1, 1))
        self.assertEqual(self.told((line("t", "x", "y"), line("t", "x", 1)), [KEY]), ("same", 0, 0, 1, 1))
        self.assertEqual(self.told((line("t", "x", 1), line("t", "x", 2)), [KEY]), ("clash", 0, 0, 1, 1))
        self.assertEqual(self.told((line("t", 7, FAR), line("t", 7, -FAR)), [KEY]), ("clash", 0, 0, 1, 1))

    def test_nothing_is_due(self):
        self.assertIsNone(self.told((), [KEY, DEEP]))
        self.assertIsNone(self.told((line("t", "x", "y"), line("t", "x", "z")), []))
        self.assertIsNone(self.told((line("t", "x", "y"), line("t", "y", "z"), line("t", 1, "z")), [KEY]))
        self.assertIsNone(self.told((line("t", 1, "y"), line("t", 2, "z")), [KEY]))
        self.assertIsNone(self.told((line("u", "x", "y"), line("u", "x", "z"), line("t", "x", "z")), [KEY]))
        self.assertIsNone(self.told((line("t", "x", "y"), line("t", "y", "x")), [DEEP]))
        self.assertIsNone(self.told((line("t", "x", "x"),), [KEY, DEEP]))

    def test_rows_alike_in_all_columns_of_the_key(self):
        key = ("key", "t", (0, 2))
        lines = (line("t", "x", "y", 1), line("t", "x", "z", 2), line("t", "w", "z", 1))
        self.assertIsNone(self.told(lines, [key]))
        self.assertEqual(self.told(lines + (line("t", "x", "v", 2),), [key]), ("same", 0, 1, 3, 1))

    def test_keys_ahead_of_pointings(self):
        lines = (line("u", "w"), line("t", "x", "y"), line("t", "x", "z"))
        points = ("points", "u", (0,), "v", (0,), 1)
        self.assertEqual(self.told(lines, [points, DEEP, KEY]), ("same", 2, 1, 2, 1))
        self.assertEqual(self.told(lines, [KEY, points]), ("same", 0, 1, 2, 1))
        self.assertEqual(self.told(lines, [points, DEEP]), ("put", 0, 0))

    def test_the_first_key(self):
        lines = (line("u", 1, "y"), line("u", 1, "z"), line("t", "x", 1), line("t", "x", 2))
        other = ("key", "u", (0,))
        self.assertEqual(self.told(lines, [KEY, other]), ("clash", 0, 2, 3, 1))
        self.assertEqual(self.told(lines, [other, KEY]), ("same", 0, 0, 1, 1))
        self.assertEqual(self.told(lines, [("key", "v", (0,)), ("key", "t", (0, 1)), KEY]), ("clash", 2, 2, 3, 1))
        self.assertEqual(self.told(lines, [KEY, KEY]), ("clash", 0, 2, 3, 1))

    def test_the_first_lines_by_i_then_by_j(self):
        lines = (line("t", "y", 1), line("t", "x", 1), line("t", "x", 2), line("t", "y", "a"))
        self.assertEqual(self.told(lines, [KEY]), ("same", 0, 0, 3, 1))
        lines = (line("t", "x", "y"), line("u", "x", "y"), line("t", "x", 1), line("t", "x", 2))
        self.assertEqual(self.told(lines, [KEY]), ("same", 0, 0, 2, 1))

    def test_the_first_column(self):
        key = ("key", "t", (1,))
        self.assertEqual(self.told((line("t", "x", 9, 1), line("t", "y", 9, 2)), [key]), ("same", 0, 0, 1, 0))
        self.assertEqual(self.told((line("t", 1, 9, "x"), line("t", 2, 9, "y")), [key]), ("clash", 0, 0, 1, 0))
        self.assertEqual(self.told((line("t", "x", 9, 1), line("t", "x", 9, 2)), [key]), ("clash", 0, 0, 1, 2))

    def test_the_first_line_for_a_put_then_the_first_rule(self):
        from_u, from_t = ("points", "u", (0,), "v", (0,), 1), ("points", "t", (0,), "v", (0,), 1)
        lines = (line("t", "x", "y"), line("u", "z"))
        self.assertEqual(self.told(lines, [from_u, from_t]), ("put", 1, 0))
        self.assertEqual(self.told(lines[::-1], [from_u, from_t]), ("put", 0, 0))
        self.assertEqual(self.told(lines, [from_u, from_t, DEEP]), ("put", 1, 0))
        self.assertEqual(self.told(lines, [from_u, DEEP, from_t]), ("put", 1, 0))
        self.assertEqual(self.told(lines + (line("v", "x"),), [from_u, from_t]), ("put", 0, 1))
        self.assertEqual(self.told(lines, [from_t, from_t]), ("put", 0, 0))

    def test_terms_in_their_order(self):
        points = ("points", "t", (1, 0), "u", (0, 2), 3)
        self.assertEqual(self.told((line("t", "x", "y"), line("u", "x", "z", "y")), [points]), ("put", 0, 0))
        self.assertIsNone(self.told((line("t", "x", "y"), line("u", "y", "z", "x")), [points]))
        self.assertEqual(self.told((line("t", "x", 5), line("u", 6, "z", "x")), [points]), ("put", 0, 0))
        self.assertIsNone(self.told((line("t", "x", 5), line("u", 5, "z", "x")), [points]))
        self.assertEqual(self.told((line("t", "x", "y"), line("w", "y", "z", "x")), [points]), ("put", 0, 0))

    def test_the_head_means_nothing(self):
        lines = (line("t", "x", "y"), line("t", "x", "z"))
        self.assertEqual(self.told(lines, [KEY], ("z", 5, "z")), ("same", 0, 0, 1, 1))

    def test_as_when_tried(self):
        words = {"same": 0, "clash": 0, "put": 0, None: 0}
        for alternative, rules in thrown_alternatives(2000):
            alternative = once_told(alternative)
            step = due(alternative, rules)
            self.assertEqual(step, tried_due(alternative[1], rules), (alternative, rules))
            words[step and step[0]] += 1
        self.assertGreater(min(words.values()), 30)


class TestBehind(Refusing):
    def check(self, alternative, step, rules, head, *lines):
        self.assertEqual(self.unchanged(behind, alternative, step, rules), (head, lines))

    def none(self, alternative, rules, *steps):
        for place, step in enumerate(steps):
            self.assertIsNone(behind(alternative, step, rules), f"step {place}")

    def test_the_first_is_a_number(self):
        alternative = (("y", "x", 3), (line("t", "x", 5), line("u", "y", "y"), line("t", "x", "y")))
        self.check(alternative, ("same", 0, 0, 2, 1), [KEY], (5, "x", 3), line("t", "x", 5), line("u", 5, 5))

    def test_the_second_is_a_number(self):
        alternative = (("y", "x"), (line("t", "x", "y"), line("u", "y", "z"), line("t", "x", -FAR)))
        self.check(alternative, ("same", 0, 0, 2, 1), [KEY], (-FAR, "x"), line("t", "x", -FAR), line("u", -FAR, "z"))

    def test_both_are_names(self):
        alternative = (("z", "y", "x"), (line("t", "x", "y"), line("u", "z", "y"), line("t", "x", "z")))
        self.check(alternative, ("same", 0, 0, 2, 1), [KEY], ("y", "y", "x"), line("t", "x", "y"), line("u", "y", "y"))
        turned = (alternative[0], alternative[1][::-1])
        self.check(turned, ("same", 0, 0, 2, 1), [KEY], ("z", "z", "x"), line("t", "x", "z"), line("u", "z", "z"))

    def test_0_is_a_number(self):
        self.check((("y",), (line("t", 0, 0), line("t", 0, "y"))), ("same", 0, 0, 1, 1), [KEY], (0,), line("t", 0, 0))
        self.check((("y",), (line("t", 0, "y"), line("t", 0, 0))), ("same", 0, 0, 1, 1), [KEY], (0,), line("t", 0, 0))

    def test_only_the_told_column(self):
        lines = (line("t", "x", "y", "z"), line("t", "x", "v", "w"))
        told = line("t", "x", "y", "z")
        self.check((("w",), lines), ("same", 0, 0, 1, 1), [KEY], ("w",), told, line("t", "x", "y", "w"))
        self.check((("w",), lines), ("same", 0, 0, 1, 2), [KEY], ("z",), told, line("t", "x", "v", "z"))

    def test_of_alike_lines_only_the_first_stays(self):
        lines = (line("u", "y"), line("t", "x", "y"), line("u", "z"), line("v", "z"), line("t", "x", "z"))
        lines = lines + (line("v", "y"),)
        told = (line("u", "y"), line("t", "x", "y"), line("v", "y"))
        self.check((("x",), lines), ("same", 0, 1, 4, 1), [KEY], ("x",), *told)

    def test_a_put(self):
        points = ("points", "t", (1,), "u", (0,), 1)
        lines = (line("v", "x"), line("t", "x", "y"))
        self.check((("y",), lines), ("put", 0, 1), [points], ("y",), *lines, line("u", "y"))
        self.check(((), lines), ("put", 1, 1), [KEY, DEEP], (), *lines, line("t", "y", "n1"))
        self.check(((), (line("t", 1, FAR),)), ("put", 0, 0), [points], (), line("t", 1, FAR), line("u", FAR))

    def test_a_put_with_several_new_names(self):
        points = ("points", "t", (1, 0), "u", (4, 1), 6)
        lines = (line("t", "x", 7),)
        self.check(((), lines), ("put", 0, 0), [points], (), *lines, line("u", "n1", "x", "n2", "n3", 7, "n4"))

    def test_new_names_that_stand_already(self):
        points = ("points", "t", (0,), "u", (1,), 4)
        lines = (line("t", "n2", "n10"), line("v", "n1", "n3", "n5"))
        self.check((("n2",), lines), ("put", 0, 0), [points], ("n2",), *lines, line("u", "n4", "n2", "n6", "n7"))
        lines = (line("t", "n4", 1), line("t", 2, "n2"))
        self.check((("n4",), lines), ("put", 0, 1), [points], ("n4",), *lines, line("u", "n1", 2, "n3", "n5"))
        lines = (line("t", "n01", "n0"), line("v", "n", "n11"))
        self.check(((), lines), ("put", 0, 0), [points], (), *lines, line("u", "n1", "n01", "n2", "n3"))

    def test_a_name_of_the_head_is_not_new(self):
        points = ("points", "t", (0,), "u", (0,), 3)
        lines = (line("t", "x", "y"),)
        told = behind((("n1", 2, "n3", "n1"), lines), ("put", 0, 0), [points])
        self.assertEqual(told, (("n1", 2, "n3", "n1"), lines + (line("u", "x", "n2", "n4"),)))

    def test_tables_that_are_called_like_new_names(self):
        points = ("points", "n1", (0,), "n2", (0,), 3)
        lines = (line("n1", "x"), line("n3", "y"))
        self.check((("y",), lines), ("put", 0, 0), [points], ("y",), *lines, line("n2", "x", "n1", "n2"))

    def test_a_clash(self):
        alternative = (("x",), (line("t", "x", 1, "y"), line("u", "y"), line("t", "x", 2, "z")))
        self.check(alternative, ("clash", 0, 0, 2, 1), [KEY], *alternative[:1], *alternative[1])

    def test_a_right_step_that_is_not_due(self):
        points = ("points", "u", (0,), "v", (0,), 1)
        lines = (line("t", "x", 1), line("t", "x", 2), line("t", "x", "y"), line("u", "y"), line("u", "z"))
        alternative = (("y",), lines)
        rules = [KEY, points]
        self.assertEqual(due(alternative, rules), ("clash", 0, 0, 1, 1))
        self.check(alternative, ("put", 1, 4), rules, ("y",), *lines, line("v", "z"))
        self.check(alternative, ("put", 1, 3), rules, ("y",), *lines, line("v", "y"))
        told = (line("t", "x", 1), line("t", "x", 2), line("u", 2), line("u", "z"))
        self.check(alternative, ("same", 0, 1, 2, 1), rules, (2,), *told)

    def test_no_bound_of_the_chase(self):
        lines = town_lines(5)
        self.check(((), lines), ("put", 0, 4), [DEEP], (), *lines, line("t", "y4", "n1"))
        lines = town_lines(30)
        self.check(((), lines), ("put", 0, 7), [DEEP], (), *lines, line("t", "y7", "n1"))

    def test_things_of_another_form(self):
        alternative = (("x",), (line("t", "x", "y"), line("t", "x", "z"), line("t", 1, 2)))
        rules = [KEY, DEEP]
        same, put = ("same", 0, 0, 1, 1), ("put", 1, 2)
        self.assertEqual(due(alternative, rules), same)
        self.assertIsNotNone(behind(alternative, put, rules))
        self.none(alternative, rules, None, (), "same", "put", list(same), list(put), (same,), [same], {}, 0, True)
        self.none(alternative, rules, *odd_things())
        for step in [same, put]:
            for length in range(len(step)):
                self.none(alternative, rules, step[:length], step[len(step) - length:])
            self.none(alternative, rules, step + (0,), step + (None,), step + step, (step[0], step[1:]))
            words = ["Same", "same ", "", "still", "past", "key", "points", None, 0, b"same", ["same"], ("same",)]
            self.none(alternative, rules, *[(word,) + step[1:] for word in words + odd_things()])
            for place in range(1, len(step)):
                things = [True, False, 0.0, 1.0, "0", "1", None, -1, -2, (0,), [0], FAR, 10 ** 5000] + odd_things()
                self.none(alternative, rules, *[step[:place] + (thing,) + step[place + 1:] for thing in things])
        self.none(alternative, rules, ("put", 0, 0, 1, 1), ("same", 1, 2), ("clash", 1, 2))

    def test_truths_in_the_place_of_numbers(self):
        alternative = ((), (line("t", "x", "y"), line("t", "x", "z")))
        self.assertIsNotNone(behind(alternative, ("same", 0, 0, 1, 1), [KEY]))
        self.none(alternative, [KEY], ("same", False, 0, 1, 1), ("same", 0, False, 1, 1), ("same", 0, 0, True, 1))
        self.none(alternative, [KEY], ("same", 0, 0, 1, True))
        self.assertIsNotNone(behind(alternative, ("put", 1, 0), [KEY, DEEP]))
        self.none(alternative, [KEY, DEEP], ("put", True, 0), ("put", 1, False))

    def test_numbers_below_0(self):
        # Python's own lists would count these from the end.
        alternative = ((), (line("t", "x", "y"), line("t", "x", "z")))
        self.none(alternative, [KEY], ("same", -1, 0, 1, 1), ("same", 0, -2, 1, 1), ("same", 0, -2, -1, 1))
        self.none(alternative, [KEY], ("same", 0, 0, -1, 1), ("same", 0, 0, 1, -1))
        self.none(alternative, [DEEP], ("put", -1, 0), ("put", 0, -1), ("put", 0, -2))

    def test_what_is_not_there(self):
        alternative = ((), (line("t", "x", "y"), line("t", "x", "z")))
        self.none(alternative, [KEY], ("same", 1, 0, 1, 1), ("same", 0, 0, 2, 1), ("same", 0, 2, 3, 1))
        self.none(alternative, [KEY], ("same", 0, 0, 1, 2), ("same", 0, 0, 1, 6), ("clash", 0, 0, 1, 2))
        self.none(alternative, [DEEP], ("put", 1, 0), ("put", 0, 2), ("put", FAR, 0), ("put", 0, FAR))
        self.none(alternative, [], ("same", 0, 0, 1, 1), ("put", 0, 0), ("clash", 0, 0, 1, 1))
        self.none(((), ()), [KEY, DEEP], ("same", 0, 0, 1, 1), ("put", 1, 0))

    def test_i_not_below_j(self):
        alternative = ((), (line("t", "x", "y"), line("t", "x", "z")))
        self.none(alternative, [KEY], ("same", 0, 1, 0, 1), ("same", 0, 0, 0, 1), ("same", 0, 1, 1, 1))
        alternative = ((), (line("t", "x", 1), line("t", "x", 2)))
        self.none(alternative, [KEY], ("clash", 0, 1, 0, 1), ("clash", 0, 0, 0, 1))

    def test_lines_of_other_tables(self):
        alternative = ((), (line("t", "x", "y"), line("u", "x", "z"), line("u", "x", "w"), line("t", "x", "v")))
        self.none(alternative, [KEY], ("same", 0, 0, 1, 1), ("same", 0, 1, 2, 1), ("same", 0, 1, 3, 1))
        self.assertIsNotNone(behind(alternative, ("same", 0, 0, 3, 1), [KEY]))
        self.none(alternative, [DEEP], ("put", 0, 1), ("put", 0, 2))

    def test_lines_unlike_in_the_columns_of_the_key(self):
        alternative = ((), (line("t", "x", "y", 1), line("t", "z", "w", 1), line("t", "x", "v", 2)))
        self.none(alternative, [KEY], ("same", 0, 0, 1, 1), ("same", 0, 0, 1, 0), ("same", 0, 1, 2, 1))
        self.none(alternative, [("key", "t", (0, 2))], ("same", 0, 0, 1, 1), ("same", 0, 0, 2, 1))
        self.assertIsNotNone(behind(alternative, ("same", 0, 0, 2, 1), [KEY]))

    def test_a_column_in_which_they_are_alike(self):
        alternative = ((), (line("t", "x", "y", 7, "z"), line("t", "x", "w", 7, "z")))
        self.none(alternative, [KEY], ("same", 0, 0, 1, 0), ("same", 0, 0, 1, 3), ("same", 0, 0, 1, 2))
        self.none(alternative, [KEY], ("clash", 0, 0, 1, 0), ("clash", 0, 0, 1, 2))

    def test_same_for_two_numbers_and_clash_for_others(self):
        self.none(((), (line("t", "x", 1), line("t", "x", 2))), [KEY], ("same", 0, 0, 1, 1))
        for terms in [(1, "y"), ("y", 1), ("y", "z")]:
            lines = (line("t", "x", terms[0]), line("t", "x", terms[1]))
            self.none(((), lines), [KEY], ("clash", 0, 0, 1, 1))

    def test_steps_by_rules_of_the_other_sort(self):
        alternative = ((), (line("t", "x", "y"), line("t", "x", "z")))
        rules = [KEY, DEEP]
        self.none(alternative, rules, ("put", 0, 0), ("same", 1, 0, 1, 1), ("clash", 1, 0, 1, 1))

    def test_a_put_where_such_a_line_is_there(self):
        points = ("points", "t", (1, 0), "u", (0, 2), 3)
        lines = (line("t", "x", "y"), line("u", "y", "z", "x"), line("t", "x", "x"), line("u", 1, 1, 1))
        self.none(((), lines), [points], ("put", 0, 0), ("put", 0, 1))
        self.assertIsNotNone(behind(((), lines), ("put", 0, 2), [points]))
        self.none(((), (line("t", "x", "x"),)), [DEEP], ("put", 0, 0))
        self.none(((), (line("t", "x", "y"), line("t", "y", "x"))), [DEEP], ("put", 0, 0), ("put", 0, 1))

    def test_as_when_tried(self):
        taken = {True: 0, False: 0}
        for alternative, rules in thrown_alternatives(500):
            alternative = once_told(alternative)
            for step in tried_steps(alternative[1], rules):
                right = tried_right(alternative[1], step, rules)
                told = tried_behind(alternative, step, rules) if right else None
                self.assertEqual(behind(alternative, step, rules), told, (alternative, step, rules))
                taken[right] += 1
        self.assertGreater(min(taken.values()), 500)


class TestChase(Refusing):
    def check(self, alternative, rules, word, ended, steps):
        told = self.unchanged(chase, alternative, rules)
        self.assertIs(type(told), tuple)
        self.assertEqual(told, (word, ended, steps))

    def test_no_rules_and_no_lines(self):
        self.check(((), ()), [], "still", ((), ()), [])
        self.check(((5,), ()), [KEY, DEEP], "still", ((5,), ()), [])
        alternative = (("x",), (line("t", "x", "y"), line("t", "x", "z")))
        self.check(alternative, [], "still", alternative, [])

    def test_alike_lines_at_the_beginning(self):
        lines = (line("u", "x"), line("t", "x", "y"), line("u", "x"), line("t", "x", "z"), line("t", "x", "y"))
        self.check((("z",), lines), [], "still", (("z",), (lines[0], lines[1], lines[3])), [])
        # The numbers of lines are those behind it.
        self.check((("z",), lines), [KEY], "still", (("y",), lines[:2]), [("same", 0, 1, 2, 1)])

    def test_still(self):
        lines = (line("t", "x", "y", 1), line("t", "x", "z", "w"), line("u", "z", "w"))
        rules = [("points", "u", (0,), "v", (1,), 2), KEY]
        told = (line("t", "x", "y", 1), line("u", "y", 1), line("v", "n1", "y"))
        self.check((("w", "z"), lines), rules, "still", ((1, "y"), told), [
            ("same", 1, 0, 1, 1), ("same", 1, 0, 1, 2), ("put", 0, 1),
        ])

    def test_a_put_that_gives_a_key_something_to_do(self):
        rules = [("points", "t", (0, 1), "u", (0, 1), 2), ("key", "u", (0,))]
        lines = (line("t", "x", "y"), line("u", "x", 5))
        told = (line("t", "x", 5), line("u", "x", 5))
        self.check((("y",), lines), rules, "still", ((5,), told), [("put", 0, 0), ("same", 1, 1, 2, 1)])

    def test_a_round_that_closes(self):
        rules = [("points", "t", (1,), "u", (0,), 1), ("points", "u", (0,), "t", (1,), 2)]
        lines = (line("t", "x", "y"),)
        self.check(((), lines), rules, "still", ((), lines + (line("u", "y"),)), [("put", 0, 0)])

    def test_a_clash_is_the_last_step(self):
        alternative = (("x",), (line("t", "x", 1), line("t", "x", 2)))
        self.check(alternative, [DEEP, KEY], "clash", alternative, [("clash", 1, 0, 1, 1)])
        lines = (line("t", "x", "y"), line("t", "x", 1), line("t", "x", 2), line("u", "y"))
        told = (line("t", "x", 1), line("t", "x", 2), line("u", 1))
        self.check((("y",), lines), [KEY], "clash", ((1,), told), [("same", 0, 0, 1, 1), ("clash", 0, 0, 1, 1)])

    def test_a_clash_behind_a_put(self):
        rules = [("points", "t", (0, 1), "u", (0, 1), 2), ("key", "u", (0,))]
        lines = (line("t", "x", 4), line("u", "x", 5))
        told = lines + (line("u", "x", 4),)
        self.check((("x",), lines), rules, "clash", (("x",), told), [("put", 0, 0), ("clash", 1, 1, 2, 1)])

    def test_past_at_five_lines(self):
        names = ["x", "y", "n1", "n2", "n3", "n4"]
        told = tuple(line("t", names[k], names[k + 1]) for k in range(5))
        self.check((("x",), told[:1]), [DEEP], "past", (("x",), told), [("put", 0, k) for k in range(4)])
        self.check((("x",), told[:4]), [DEEP], "past", (("x",), told), [("put", 0, 3)])
        self.check((("x",), told), [DEEP], "past", (("x",), told), [])

    def test_past_with_more_than_five_lines(self):
        alternative = ((), town_lines(7))
        self.check(alternative, [DEEP], "past", alternative, [])

    def test_the_lines_of_the_other_table_count(self):
        # Five lines of the table itself are no reason, and of the other one the fifth may be put.
        lines = town_lines(5)
        points = ("points", "t", (0,), "u", (0,), 1)
        told = lines + tuple(line("u", f"x{k}") for k in range(5))
        self.check(((), lines), [points], "still", ((), told), [("put", 0, k) for k in range(5)])
        others = tuple(line("u", f"z{k}", "x4") for k in range(4))
        wide = ("points", "t", (0,), "u", (0,), 2)
        put = others + (lines[0], line("u", "x0", "n1"))
        self.check(((), others + lines[:1]), [wide], "still", ((), put), [("put", 0, 4)])
        put = others + lines[:2] + (line("u", "x0", "n1"),)
        self.check(((), others + lines[:2]), [wide], "past", ((), put), [("put", 0, 4)])

    def test_past_though_another_put_would_be_within_the_bounds(self):
        points = ("points", "v", (0,), "u", (0,), 1)
        lines = town_lines(5) + (line("v", "x0"),)
        self.check(((), lines), [points, DEEP], "past", ((), lines), [])
        told = lines[5:] + lines[:5] + (line("u", "x0"),)
        self.check(((), lines[5:] + lines[:5]), [points, DEEP], "past", ((), told), [("put", 0, 0)])

    def test_what_is_due_by_a_key_is_taken_ahead_of_the_end(self):
        lines = town_lines(4) + (line("t", "x3", "z"), line("u", "z"))
        told = town_lines(4) + (line("u", "y3"), line("t", "y0", "n1"))
        steps = [("same", 1, 3, 4, 1), ("put", 0, 0)]
        self.check((("z",), lines), [DEEP, KEY], "past", (("y3",), told), steps)

    def test_past_behind_sixteen_puts(self):
        names = ["x", "y"] + [f"n{k}" for k in range(1, 17)]
        told = tuple(line(f"t{k % 6}", names[k], names[k + 1]) for k in range(17))
        self.check((("x",), told[:1]), ROUND, "past", (("x",), told), [("put", k % 6, k) for k in range(16)])

    def test_still_behind_sixteen_puts(self):
        lines = tuple(line("p", f"x{k}") for k in range(4))
        rules = [("points", "p", (0,), table, (0,), 1) for table in "abcd"]
        told = lines + tuple(line(table, f"x{k}") for k in range(4) for table in "abcd")
        steps = [("put", number, k) for k in range(4) for number in range(4)]
        self.check(((), lines), rules, "still", ((), told), steps)

    def test_what_is_due_by_a_key_is_taken_behind_sixteen_puts(self):
        lines = tuple(line("p", f"x{k}") for k in range(4)) + (line("d", "x1", "w"),)
        rules = [("points", "p", (0,), table, (0,), 2) for table in "bac"]
        rules = rules + [("points", "a", (0, 1), "d", (0, 1), 2), ("points", "b", (0,), "q", (0,), 1)]
        rules = rules + [("key", "d", (0,))]
        told = chase((("w",), lines), rules)
        puts = [("put", number, k) for k in range(4) for number in range(3)]
        puts = puts + [("put", 4, 5), ("put", 3, 6), ("put", 4, 8), ("put", 3, 9)]
        self.assertEqual(told[2], puts + [("same", 5, 4, 20, 1)])
        self.assertEqual(told, tried_chase((("w",), lines), rules))
        self.assertEqual(told[0], "past")
        # The put that is due then, for the line of b with x2, is neither taken nor told.
        self.assertEqual(due(told[1], rules), ("put", 4, 11))
        self.assertEqual(told[1][0], ("w",))
        self.assertEqual(told[1][1][4], line("d", "x1", "w"))

    def test_each_step_is_the_one_that_is_due(self):
        for alternative, rules in thrown_alternatives(400):
            word, ended, steps = chase(alternative, rules)
            stands = once_told(alternative)
            for step in steps:
                self.assertEqual(step, due(stands, rules))
                stands = behind(stands, step, rules)
            self.assertEqual(stands, ended)
            last = due(ended, rules)
            self.assertEqual(word, "still" if last is None else "past" if last[0] == "put" else "clash")

    def test_as_when_tried(self):
        words = {"still": 0, "clash": 0, "past": 0}
        for alternative, rules in thrown_alternatives(1500):
            told = chase(alternative, rules)
            self.assertEqual(told, tried_chase(alternative, rules), (alternative, rules))
            words[told[0]] += 1
            if told[0] == "still":
                self.assertIs(keeps(book_of(told[1][1]), rules), True, (alternative, rules))
        self.assertGreater(min(words.values()), 50)

    def test_the_rules_are_rules(self):
        self.assertTrue(all(is_rule(rule) for rule in [KEY, DEEP] + ROUND))

    def test_what_is_told_is_the_askers_own(self):
        alternative, rules = (("x",), (line("t", "x", "y"), line("t", "x", "z"))), [KEY, DEEP]
        told = self.unchanged(chase, alternative, rules)
        before = copy.deepcopy(told)
        self.assertIs(type(told[2]), list)
        told[2].clear()
        self.assertEqual(chase(alternative, rules), before)
        rules.clear()
        self.assertEqual(before[0], "past")
        self.assertEqual(chase(alternative, rules), ("still", alternative, []))


if __name__ == "__main__":
    unittest.main()
