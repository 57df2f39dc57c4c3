import copy
import itertools
import unittest

from things import (
    LONG, Refusing, line, names_told, thrown_pairs, tried_answers, tried_chase, tried_frozen, tried_within,
)

from askwithin.books import is_book
from askwithin.chase import chase
from askwithin.inside import frozen, same, within
from askwithin.rules import is_rule, keeps
from askwithin.terms import is_question
from askwithin.thin import plan_answers
from askwithin.walk import answers

KEY = ("key", "t", (0,))
DEEP = ("points", "t", (1,), "t", (0,), 2)
TOWNS = ("points", "road", (1,), "town", (0,), 2)
ROADS = [(("x",), (line("road", "x", "y"), line("road", "y", "z")))]
ROAD = [(("a",), (line("road", "a", "b"),))]
CLASH = (("x",), (line("t", "x", 1), line("t", "x", 2)))
# Under DEEP the chase of this one passes its bounds.
ENDLESS = (("x",), (line("t", "x", "y"),))
LOOP = (("a",), (line("t", "a", "a"),))


class TestFrozen(Refusing):
    def check(self, alternative, above, book, row):
        told = self.unchanged(frozen, alternative, above)
        self.assertEqual(told, (book, row))
        self.assertIs(type(told), tuple)
        self.assertIs(type(told[0]), dict)
        self.assertIs(type(told[1]), tuple)
        for own in told[0].values():
            self.assertIs(type(own), list)
        self.assertIs(is_book(told[0]), True)

    def test_names_in_their_order(self):
        lines = (line("road", "z", "x"), line("town", "x"), line("road", "y", "z"))
        self.check((("x", "y"), lines), 0, {"road": [(1, 2), (3, 1)], "town": [(2,)]}, (2, 3))
        self.check((("x", "y"), lines), 10, {"road": [(11, 12), (13, 11)], "town": [(12,)]}, (12, 13))

    def test_the_head_gives_no_order(self):
        self.check((("z", "y", "x"), (line("t", "x", "y", "z"),)), 0, {"t": [(1, 2, 3)]}, (3, 2, 1))

    def test_numbers_stay(self):
        lines = (line("t", 7, "x"), line("t", -3, 0))
        self.check(((5, "x", 7), lines), 7, {"t": [(-3, 0), (7, 8)]}, (5, 8, 7))
        self.check(((5, "x", 7), lines), 8, {"t": [(-3, 0), (7, 9)]}, (5, 9, 7))

    def test_above_a_number_below_0(self):
        self.check((("x",), (line("t", "y", "x"),)), -5, {"t": [(-4, -3)]}, (-3,))
        self.check((("y", -9), (line("t", "y", -5),)), -5, {"t": [(-4, -5)]}, (-4, -9))
        self.check((("x",), (line("t", "x", "y", "z"),)), -2, {"t": [(-1, 0, 1)]}, (-1,))

    def test_above_numbers_of_many_figures(self):
        above = int("9" * 61)
        alternative = (("y", LONG), (line("t", "x", "y"), line("t", LONG, -LONG)))
        self.check(alternative, above, {"t": [(LONG, -LONG), (above + 1, above + 2)]}, (above + 2, LONG))
        self.check(alternative, LONG, {"t": [(LONG, -LONG), (LONG + 1, LONG + 2)]}, (LONG + 2, LONG))
        self.check((("x",), (line("t", "x"),)), -above, {"t": [(1 - above,)]}, (1 - above,))

    def test_rows_are_sorted(self):
        lines = (line("t", "x", "y"), line("t", "z", 5), line("t", "y", "x"), line("t", 4, "z"), line("t", "y", 5))
        rows = [(4, 8), (6, 7), (7, 5), (7, 6), (8, 5)]
        self.check(((), lines), 5, {"t": rows}, ())

    def test_each_row_once(self):
        lines = (line("t", "x", "y"), line("t", "y", "x"), line("t", "x", "y"), line("t", "y", "x"), line("u", "x"))
        self.check((("y",), lines), 0, {"t": [(1, 2), (2, 1)], "u": [(1,)]}, (2,))
        self.check(((), (line("u", 3), line("u", 3))), 3, {"u": [(3,)]}, ())

    def test_no_lines(self):
        self.check(((), ()), 0, {}, ())
        self.check(((7, -7, 7), ()), 7, {}, (7, -7, 7))

    def test_a_head_with_names_that_stand_twice(self):
        self.check((("y", "y", 2, "x"), (line("t", "x", "y", "x"),)), 2, {"t": [(3, 4, 3)]}, (4, 4, 2, 3))

    def test_names_and_tables_that_read_alike(self):
        lines = (line("x", "n1", "x"), line("n1", "n2", "n1"))
        self.check((("n2", "x"), lines), 0, {"x": [(1, 2)], "n1": [(3, 1)]}, (3, 2))

    def test_as_many_lines_as_a_chase_comes_to(self):
        lines = tuple(line(f"t{k % 7}", f"n{k}", f"n{k + 1}") for k in range(21))
        self.assertEqual(frozen((("n21",), lines), 0), tried_frozen((("n21",), lines), 0))
        self.assertEqual(frozen((("n21",), lines), 0)[1], (22,))

    def test_what_is_told_is_the_askers_own(self):
        alternative = (("x",), (line("t", "x", 1), line("u", "x")))
        told = frozen(alternative, 1)
        told[0]["t"].append((9, 9))
        told[0]["w"] = []
        self.assertEqual(frozen(alternative, 1), ({"t": [(2, 1)], "u": [(2,)]}, (2,)))

    def test_as_when_tried(self):
        for one, other, rules in thrown_pairs(300):
            for alternative in one:
                for above in (LONG, 1, 17 * LONG // 10):
                    self.assertEqual(frozen(alternative, above), tried_frozen(alternative, above))


class TestWithin(Refusing):
    def check(self, one, other, rules, *told):
        self.assertTrue(is_question(one) and is_question(other) and all(is_rule(rule) for rule in rules))
        self.assertEqual(self.unchanged(within, one, other, rules), told)

    def map(self, one, other, rules, number, pairs, steps):
        self.check(one, other, rules, "within", [("map", number, pairs, steps)])

    def test_a_map_and_what_parts_the_two(self):
        self.map(ROADS, ROAD, [], 0, [("a", "x"), ("b", "y")], [])
        self.check(ROAD, ROADS, [], "not", 0, {"road": [(1, 2)]}, (1,))

    def test_the_kinds(self):
        told = within(ROADS, ROAD)
        self.assertEqual([type(told), type(told[1]), type(told[1][0])], [tuple, list, tuple])
        self.assertEqual([type(part) for part in told[1][0]], [str, int, list, list])
        self.assertIs(type(told[1][0][2][0]), tuple)
        told = within(ROAD, ROADS)
        self.assertEqual([type(part) for part in told], [str, int, dict, tuple])
        told = within([CLASH], ROAD, [KEY])
        self.assertEqual([type(part) for part in told[1][0]], [str, list])
        told = within([ENDLESS], [LOOP], [DEEP])
        self.assertEqual([type(part) for part in told], [str, list])

    def test_rules_left_out_none_and_empty(self):
        self.assertEqual(within(ROADS, ROAD), within(ROADS, ROAD, []))
        self.assertEqual(within(ROADS, ROAD, None), within(ROADS, ROAD, []))
        self.assertEqual(within(ROAD, ROADS), ("not", 0, {"road": [(1, 2)]}, (1,)))
        self.assertEqual(within(ROAD, ROADS, None), within(ROAD, ROADS, rules=[]))

    def test_no_alternatives_on_either_side(self):
        self.check([], [], [], "within", [])
        self.check([], ROAD, [KEY], "within", [])
        self.check(ROAD, [], [], "not", 0, {"road": [(1, 2)]}, (1,))
        self.check([((), ())], [], [KEY, DEEP], "not", 0, {}, ())
        self.check([CLASH], [], [KEY], "within", [("clash", [("clash", 0, 0, 1, 1)])])
        self.check([ENDLESS], [], [DEEP], "open", [0])

    def test_no_lines(self):
        self.map([((), ())], [((), ())], [], 0, [], [])
        self.map([((5,), ())], [((6,), ()), ((5,), ())], [], 1, [], [])
        self.check([((5,), ())], [((6,), ())], [], "not", 0, {}, (5,))
        self.map([((), (line("t", "x"),))], [((), ())], [], 0, [], [])
        self.check([((), ())], [((), (line("t", "x"),))], [], "not", 0, {}, ())
        self.check([((7,), ())], [(("x",), (line("t", "x"),))], [], "not", 0, {}, (7,))

    def test_heads_of_unlike_lengths(self):
        lines = (line("t", "x"),)
        self.check([(("x",), lines)], [(("x", "x"), lines)], [], "not", 0, {"t": [(1,)]}, (1,))
        self.check([((), lines)], [(("x",), lines)], [], "not", 0, {"t": [(1,)]}, ())
        self.check([CLASH], [(("x", "x"), lines)], [KEY], "within", [("clash", [("clash", 0, 0, 1, 1)])])
        self.check([ENDLESS], [((), lines[:0])], [DEEP], "open", [0])

    def test_the_head_is_kept(self):
        lines = (line("road", "x", "y"),)
        self.check([(("x",), lines)], [(("y",), lines)], [], "not", 0, {"road": [(1, 2)]}, (1,))
        self.check([(("x", "y"), lines)], [(("x", "x"), lines)], [], "not", 0, {"road": [(1, 2)]}, (1, 2))
        pairs = [("x", "x"), ("y", "x")]
        self.map([(("x", "x"), (line("road", "x", "x"),))], [(("x", "y"), lines)], [], 0, pairs, [])
        self.map([((3,), (line("road", 3, "y"),))], [(("x",), lines)], [], 0, [("x", 3), ("y", "y")], [])
        self.check([(("x",), lines)], [((3,), (line("road", 3, "y"),))], [], "not", 0, {"road": [(4, 5)]}, (4,))

    def test_the_least_match(self):
        other = [((), (line("road", "a", "b"),))]
        lines = (line("town", "x"), line("road", "y", "z"), line("road", "x", "w"))
        self.map([((), lines)], other, [], 0, [("a", "x"), ("b", "w")], [])
        # A number of the question lies below all that is frozen.
        lines = (line("road", "x", "y"), line("road", -7, "z"), line("road", 4, "x"))
        self.map([((), lines)], other, [], 0, [("a", -7), ("b", "z")], [])
        lines = (line("road", "x", "y"), line("road", "x", 9))
        self.map([((), lines)], other, [], 0, [("a", "x"), ("b", 9)], [])

    def test_the_least_of_the_matches_that_have_the_head(self):
        lines = (line("road", "x", "y"), line("road", "z", "w"), line("road", "z", "x"))
        other = [(("a",), (line("road", "b", "c"), line("road", "a", "d")))]
        self.map([(("z",), lines)], other, [], 0, [("b", "x"), ("c", "y"), ("a", "z"), ("d", "x")], [])
        self.map([(("z",), lines)], ROAD, [], 0, [("a", "z"), ("b", "x")], [])
        self.map([(("x",), lines)], ROAD, [], 0, [("a", "x"), ("b", "y")], [])

    def test_the_first_alternative(self):
        nowhere = (("a",), (line("lake", "a"),))
        town = (("a",), (line("town", "a"),))
        one = [(("x",), (line("town", "x"), line("road", "x", "y")))]
        self.map(one, [nowhere, town] + ROAD, [], 1, [("a", "x")], [])
        self.map(one, [nowhere] + ROAD + [town], [], 1, [("a", "x"), ("b", "y")], [])
        self.map(one, ROAD + [town], [], 0, [("a", "x"), ("b", "y")], [])

    def test_pairs_in_the_order_of_the_other_ones_names(self):
        one = [(("u", "v"), (line("t", "u", "v", 3),))]
        other = [(("z", "b"), (line("t", "z", "b", "a"), line("t", "z", "y", "a")))]
        self.map(one, other, [], 0, [("z", "u"), ("b", "v"), ("a", 3), ("y", "v")], [])

    def test_names_that_read_alike_mean_nothing(self):
        one = [(("x",), (line("road", "x", "y"),))]
        other = [(("y",), (line("road", "y", "x"),))]
        self.map(one, other, [], 0, [("y", "x"), ("x", "y")], [])

    def test_numbers_of_the_other_question(self):
        lines = (line("t", "x"),)
        self.check([((), lines)], [((), (line("t", 1),))], [], "not", 0, {"t": [(2,)]}, ())
        self.check([((), lines)], [((), (line("t", -1),))], [], "not", 0, {"t": [(1,)]}, ())
        # A number in the head alone, or in another alternative, counts, too.
        self.check([((5,), lines)], [((9,), lines)], [], "not", 0, {"t": [(10,)]}, (5,))
        self.check([((), lines), ((), (line("u", 30),))], [], [], "not", 0, {"t": [(31,)]}, ())
        self.check([((), lines)], [((), (line("u", "x"),)), ((), (line("u", 30),))], [], "not", 0, {"t": [(31,)]}, ())
        self.map([((), (line("t", 30), line("t", "x")))], [((), (line("t", "y"),))], [], 0, [("y", 30)], [])

    def test_numbers_of_sixty_figures_on_both_sides(self):
        one = [(("x", LONG), (line("t", "x", LONG), line("t", "y", -LONG)))]
        self.map(one, [(("a", "b"), (line("t", "a", "b"), line("t", "c", -LONG)))], [], 0,
                 [("a", "x"), ("b", LONG), ("c", "y")], [])
        self.check(one, [(("a", "b"), (line("t", "a", "b"), line("t", "a", -LONG)))], [], "not", 0,
                   {"t": [(LONG + 1, LONG), (LONG + 2, -LONG)]}, (LONG + 1, LONG))
        plain = [(("x",), (line("t", "x", "y"),))]
        self.check(plain, [(("x",), (line("t", "x", LONG),))], [], "not", 0, {"t": [(LONG + 1, LONG + 2)]}, (LONG + 1,))
        self.check(plain, [(("x",), (line("t", "x", -LONG),))], [], "not", 0, {"t": [(1, 2)]}, (1,))
        low = [((-LONG,), (line("t", -LONG, 1 - LONG),))]
        self.map(low, plain, [], 0, [("x", -LONG), ("y", 1 - LONG)], [])

    def test_alike_lines(self):
        own = line("road", "x", "y")
        self.map([(("x",), (own, own, own))], ROAD, [], 0, [("a", "x"), ("b", "y")], [])
        self.map(ROAD, [(("x",), (own, own, own))], [], 0, [("x", "a"), ("y", "b")], [])
        self.check([(("x",), (own, own))], ROADS, [], "not", 0, {"road": [(1, 2)]}, (1,))

    def test_a_clash(self):
        self.check([CLASH], ROAD, [DEEP, KEY], "within", [("clash", [("clash", 1, 0, 1, 1)])])
        alternative = (("x",), (line("t", "x", "y"), line("t", "x", 1), line("t", "x", 2)))
        steps = [("same", 0, 0, 1, 1), ("clash", 0, 0, 1, 1)]
        self.check([alternative], ROAD, [KEY], "within", [("clash", steps)])
        self.check([alternative] + ROADS, ROAD, [KEY], "within", [
            ("clash", steps), ("map", 0, [("a", "x"), ("b", "y")], []),
        ])
        # Though the other question has a map from it, a clash is told.
        self.check([CLASH], [CLASH], [KEY], "within", [("clash", [("clash", 0, 0, 1, 1)])])
        self.map([CLASH], [CLASH], [], 0, [("x", "x")], [])

    def test_a_clash_behind_a_put(self):
        rules = [("points", "t", (0, 1), "u", (0, 1), 2), ("key", "u", (0,))]
        lines = (line("t", "x", 4), line("u", "x", 5))
        self.check([((), lines)], [], rules, "within", [("clash", [("put", 0, 0), ("clash", 1, 1, 2, 1)])])

    def test_keys_make_terms_the_same(self):
        one = [(("y", "z"), (line("t", "x", "y"), line("t", "x", "z")))]
        other = [(("a", "a"), (line("t", "b", "a"),))]
        self.map(one, other, [KEY], 0, [("b", "x"), ("a", "y")], [("same", 0, 0, 1, 1)])
        self.check(one, other, [], "not", 0, {"t": [(1, 2), (1, 3)]}, (2, 3))
        one = [(("y", "z"), (line("t", "x", "y"), line("t", "x", "z"), line("t", "x", 8)))]
        steps = [("same", 0, 0, 1, 1), ("same", 0, 0, 1, 1)]
        self.map(one, other, [KEY], 0, [("b", "x"), ("a", 8)], steps)
        self.map(one, [((8, 8), ())], [KEY], 0, [], steps)

    def test_names_that_a_chase_has_put(self):
        other = [(("a",), (line("road", "a", "b"), line("town", "b", "c")))]
        pairs = [("a", "a"), ("b", "b"), ("c", "n1")]
        self.map(ROAD, other, [TOWNS], 0, pairs, [("put", 0, 0)])
        self.check(ROAD, other, [], "not", 0, {"road": [(1, 2)]}, (1,))
        one = [(("n1",), (line("road", "n1", "n2"),))]
        self.map(one, other, [TOWNS], 0, [("a", "n1"), ("b", "n2"), ("c", "n3")], [("put", 0, 0)])
        pairs = [("a", 4), ("b", -4), ("c", "n1")]
        self.map([((4,), (line("road", 4, -4),))], other, [TOWNS], 0, pairs, [("put", 0, 0)])

    def test_what_parts_the_two_is_told_as_chased(self):
        other = [(("a",), (line("town", "a", "b"),))]
        self.check(ROAD, other, [TOWNS], "not", 0, {"road": [(1, 2)], "town": [(2, 3)]}, (1,))
        one = [(("z",), (line("t", "x", "y"), line("t", "x", "z")))]
        self.check(one, [LOOP], [KEY], "not", 0, {"t": [(1, 2)]}, (2,))

    def test_the_rules_in_their_order(self):
        first = ("points", "road", (0,), "town", (0,), 2)
        other = [(("a",), (line("town", "a", "b"),))]
        self.map(ROAD, other, [first, TOWNS], 0, [("a", "a"), ("b", "n1")], [("put", 0, 0), ("put", 1, 0)])
        self.map(ROAD, other, [TOWNS, first], 0, [("a", "a"), ("b", "n2")], [("put", 0, 0), ("put", 1, 0)])

    def test_open(self):
        self.check([ENDLESS], [LOOP], [DEEP], "open", [0])
        self.check([ENDLESS, ENDLESS], [LOOP], [DEEP], "open", [0, 1])
        loop = (("x",), (line("t", "x", "x"),))
        self.check([ENDLESS, loop, ENDLESS], [LOOP], [DEEP], "open", [0, 2])
        self.check([loop, CLASH, ENDLESS], [LOOP], [DEEP, KEY], "open", [2])

    def test_a_map_though_the_chase_has_passed_its_bounds(self):
        chain = tuple(line("t", f"x{k}", f"x{k + 1}") for k in range(5))
        pairs = list(zip(["x0", "x1", "x2", "x3", "x4", "x5"], ["x", "y", "n1", "n2", "n3", "n4"]))
        steps = [("put", 0, k) for k in range(4)]
        self.map([ENDLESS], [(("x0",), chain)], [DEEP], 0, pairs, steps)
        self.map([ENDLESS], [LOOP, (("x0",), chain)], [DEEP], 1, pairs, steps)

    def test_parted_ahead_of_open(self):
        parted = (("x",), (line("u", "x"),))
        self.check([ENDLESS, parted], [LOOP], [DEEP], "not", 1, {"u": [(1,)]}, (1,))
        self.check([parted, ENDLESS], [LOOP], [DEEP], "not", 0, {"u": [(1,)]}, (1,))
        other = (("y",), (line("u", "y"), line("v", "x")))
        self.check([ENDLESS, other, parted], [LOOP], [DEEP], "not", 1, {"u": [(1,)], "v": [(2,)]}, (1,))

    def test_the_first_that_is_parted(self):
        parted = [((), (line("u", "x"),)), ((), (line("v", "x", "y"),))]
        self.check(parted, [], [], "not", 0, {"u": [(1,)]}, ())
        self.check(parted[::-1], [], [], "not", 0, {"v": [(1, 2)]}, ())
        self.check(parted, parted[:1], [], "not", 1, {"v": [(1, 2)]}, ())

    def test_many_alternatives_of_the_other_are_each_asked_alone(self):
        one = [(("x",), (line("t", "x", "y"), line("u", "x")))]
        other = [(("x",), (line("t", "x", "x"),)), (("x",), (line("u", "x"),))]
        self.map(one, other, [], 1, [("x", "x")], [])

    def test_a_ring_within_the_bounds_and_somewhat_beyond(self):
        # Five lines of one table are chased to five rows, so a ring of five has 3125 ways; six lines have more.
        for many in (3, 5, 6, 7):
            ring = tuple(line("t", f"x{k}", f"x{(k + 1) % many}") for k in range(many))
            names = [f"x{k}" for k in range(many)]
            told = within([((), ring)], [((), ring)], [KEY])
            self.assertEqual(told, ("within", [("map", 0, list(zip(names, names)), [])]))
            broken = ring[:-1] + (line("t", f"x{many - 1}", "z"),)
            self.assertEqual(within([((), broken)], [((), ring)])[0], "not")
            self.assertEqual(within([((), ring)], [((), broken)])[0], "within")

    def test_each_question_within_itself_under_any_rules(self):
        papers = {"map": 0, "clash": 0}
        for one, other, rules in thrown_pairs(1500):
            for question in (one, other):
                told = within(question, question, rules)
                self.assertEqual((told[0], len(told[1])), ("within", len(question)), (question, rules))
                for paper in told[1]:
                    papers[paper[0]] += 1
        self.assertGreater(min(papers.values()), 50)

    def test_never_open_without_rules_or_with_keys_alone(self):
        for one, other, rules in thrown_pairs(1000):
            keys = [rule for rule in rules if rule[0] == "key"]
            self.assertIn(within(one, other)[0], ("not", "within"))
            self.assertIn(within(one, other, keys)[0], ("not", "within"))

    def test_as_when_tried(self):
        told = {"not": 0, "open": 0, "within": 0, "map": 0, "clash": 0}
        for one, other, rules in thrown_pairs(3000):
            own = within(one, other, rules)
            self.assertEqual(own, tried_within(one, other, rules), (one, other, rules))
            told[own[0]] += 1
            for paper in own[1] if own[0] == "within" else []:
                told[paper[0]] += 1
        self.assertGreater(min(told.values()), 40)

    def test_a_map_leads_into_the_chased_alternative(self):
        for one, other, rules in thrown_pairs(1000):
            told = within(one, other, rules)
            for paper, alternative in zip(told[1], one) if told[0] == "within" else []:
                self.assertEqual(chase(alternative, rules)[2], paper[-1])
                if paper[0] == "map":
                    self.check_map(other[paper[1]], paper[2], tried_chase(alternative, rules)[1])

    def check_map(self, mapped, pairs, chased):
        self.assertEqual([name for name, term in pairs], names_told(mapped[1]))
        put = dict(pairs)
        self.assertEqual(tuple(put.get(term, term) for term in mapped[0]), chased[0])
        for table, terms in mapped[1]:
            self.assertIn((table, tuple(put.get(term, term) for term in terms)), chased[1])

    def test_the_told_book_parts_the_two(self):
        parted = 0
        for one, other, rules in thrown_pairs(1500):
            told = within(one, other, rules)
            if told[0] == "not":
                word, number, book, row = told
                parted += 1
                self.assertIs(is_book(book) and keeps(book, rules), True, (one, other, rules))
                for ask in (tried_answers, answers, plan_answers):
                    self.assertIn(row, ask(book, one))
                    self.assertIn(row, ask(book, one[number:number + 1]))
                    self.assertNotIn(row, ask(book, other))
        self.assertGreater(parted, 300)

    def test_what_is_told_is_the_askers_own(self):
        one, other, rules = ROAD + [(("x",), (line("t", "x", 1), line("t", "x", 2)))], list(ROAD), [KEY, TOWNS]
        told = self.unchanged(within, one, other, rules)
        before = copy.deepcopy(told)
        told[1][0][2].clear()
        told[1][0][3].clear()
        told[1][1][1].append("x")
        told[1].reverse()
        self.assertEqual(within(one, other, rules), before)
        parted = within(ROAD, ROADS)
        parted[2]["road"].append((5, 5))
        parted[2].clear()
        self.assertEqual(within(ROAD, ROADS), ("not", 0, {"road": [(1, 2)]}, (1,)))
        past = within([ENDLESS], [LOOP], [DEEP])
        past[1].append(7)
        self.assertEqual(within([ENDLESS], [LOOP], [DEEP]), ("open", [0]))

    def test_what_is_done_later_changes_nothing(self):
        one, other, rules = list(ROAD), list(ROAD), [TOWNS]
        told = within(one, other, rules)
        before = copy.deepcopy(told)
        one.clear()
        other.clear()
        rules.clear()
        within(ROADS, ROAD, [DEEP])
        self.assertEqual(told, before)


class TestSame(Refusing):
    def check(self, one, other, rules, word):
        self.assertEqual(self.unchanged(same, one, other, rules), word)
        self.assertEqual(self.unchanged(same, other, one, rules), word)

    def test_yes(self):
        self.check([], [], [], "yes")
        self.check(ROAD, ROAD, [KEY], "yes")
        lines = (line("road", "y", "x"), line("road", "z", "y"), line("road", "z", "w"))
        self.check(ROADS, [(("z",), lines)], [], "yes")
        self.check([CLASH], [], [KEY], "yes")
        self.check(ROADS + ROAD, ROAD, [], "yes")
        self.check(ROAD, [(("a",), (line("road", "a", "b"), line("town", "b", "c")))], [TOWNS], "yes")

    def test_no(self):
        self.check(ROADS, ROAD, [], "no")
        self.check([], ROAD, [KEY], "no")
        self.check([CLASH], [], [], "no")
        self.check([((1,), ())], [((2,), ())], [], "no")
        self.check(ROAD, [(("a",), (line("road", "a", "b"), line("town", "b", "c")))], [], "no")
        self.check([((), ())], [((1,), ())], [], "no")

    def test_open(self):
        self.check([ENDLESS], [LOOP], [DEEP], "open")
        self.check([ENDLESS], [], [DEEP], "open")
        apart = [(("x",), (line("t", "x", "y"), line("u", "z"))), (("x",), (line("t", "x", "y"), line("v", "z")))]
        self.assertEqual(within(apart[:1], apart[1:], [DEEP]), ("open", [0]))
        self.assertEqual(within(apart[1:], apart[:1], [DEEP]), ("open", [0]))
        self.check(apart[:1], apart[1:], [DEEP], "open")

    def test_no_where_one_way_is_parted_and_the_other_open(self):
        parted = [(("x",), (line("t", "x", "x"),))]
        other = [(("x",), (line("t", "x", "y"), line("u", "x")))]
        self.assertEqual(within(parted, other, [DEEP])[0], "not")
        self.assertEqual(within(other, parted, [DEEP]), ("open", [0]))
        self.check(parted, other, [DEEP], "no")

    def test_rules_left_out_none_and_empty(self):
        for one, other in itertools.product([ROAD, ROADS, [CLASH]], repeat=2):
            self.assertEqual(same(one, other), same(one, other, []))
            self.assertEqual(same(one, other, None), same(one, other, rules=[]))

    def test_as_when_tried(self):
        told = {"yes": 0, "no": 0, "open": 0}
        for one, other, rules in thrown_pairs(1500):
            words = [tried_within(one, other, rules)[0], tried_within(other, one, rules)[0]]
            wanted = "no" if "not" in words else "yes" if words == ["within", "within"] else "open"
            self.assertEqual(same(one, other, rules), wanted, (one, other, rules))
            told[wanted] += 1
        self.assertGreater(min(told.values()), 20)


if __name__ == "__main__":
    unittest.main()
