import unittest

from things import (
    FAR, Refusing, line, rows, thrown_cases, thrown_questions, thrown_rings, tried_answers, tried_matches, tried_rows,
    wheel,
)

from askwithin.errors import TooMany
from askwithin.thin import fitting, least_match, many, plan_answers, plan_matches, thinned
from askwithin.trees import ears, ring
from askwithin.walk import answers, matches, ways

ROADS = {"road": [(3, 1), (1, 2), (2, 3), (2, 2), (5, 6)], "town": [(2,), (-5,), (1,)], "bare": []}
CHAIN = (line("road", "x", "y"), line("road", "y", "z"), line("town", "z"))
RING = (line("road", "x", "y"), line("road", "y", "z"), line("road", "z", "x"))


def told_of(book, lines):
    """What thinning, counting and the plan tell of lines: all but the first of the module's functions."""
    return [ask(book, lines) for ask in (thinned, many, least_match, plan_matches)]


def all_cases():
    return [case for case in list(thrown_cases(300)) + list(thrown_rings(200)) if ways(*case) <= 1500]


class TestFitting(Refusing):
    def test_all_rows_sorted(self):
        self.assertEqual(fitting(ROADS, line("road", "x", "y")), [(1, 2), (2, 2), (2, 3), (3, 1), (5, 6)])
        self.assertEqual(fitting(ROADS, line("town", "x")), [(-5,), (1,), (2,)])
        book = {"t": [(10, 0), (9, FAR), (9, -FAR), (-10, 0), (FAR, 0), (-FAR, 0)]}
        told = [(-FAR, 0), (-10, 0), (9, -FAR), (9, FAR), (10, 0), (FAR, 0)]
        self.assertEqual(fitting(book, line("t", "x", "y")), told)

    def test_numbers_and_a_name_twice(self):
        self.assertEqual(fitting(ROADS, line("road", 2, "y")), [(2, 2), (2, 3)])
        self.assertEqual(fitting(ROADS, line("road", "x", "x")), [(2, 2)])
        self.assertEqual(fitting(ROADS, line("road", 3, 1)), [(3, 1)])
        self.assertEqual(fitting(ROADS, line("road", 1, 3)), [])
        book = {"t": [(1, 7, 1), (1, 7, 2), (2, 8, 2), (FAR, 7, FAR)]}
        self.assertEqual(fitting(book, line("t", "x", 7, "x")), [(1, 7, 1), (FAR, 7, FAR)])
        self.assertEqual(fitting(book, line("t", FAR, "y", "x")), [(FAR, 7, FAR)])

    def test_no_rows(self):
        self.assertEqual(fitting(ROADS, line("bare", "x")), [])
        self.assertEqual(fitting(ROADS, line("other", "x")), [])
        self.assertEqual(fitting({}, line("town", "x")), [])

    def test_never_refused(self):
        self.assertEqual(len(fitting({"t": rows(5000)}, line("t", "x"))), 5000)

    def test_what_is_told_is_the_askers_own(self):
        told = self.unchanged(fitting, ROADS, line("town", "x"))
        self.assertIs(type(told), list)
        told.clear()
        self.assertEqual(fitting(ROADS, line("town", "x")), [(-5,), (1,), (2,)])
        self.assertEqual(ROADS["town"], [(2,), (-5,), (1,)])


class TestThinned(Refusing):
    def test_no_lines(self):
        self.assertEqual(thinned(ROADS, ()), [])
        self.assertEqual(thinned({}, ()), [])

    def test_one_line(self):
        self.assertEqual(thinned(ROADS, (line("road", 2, "y"),)), [[(2, 2), (2, 3)]])
        self.assertEqual(thinned(ROADS, (line("road", "x", "x"),)), [[(2, 2)]])

    def test_along_a_tree(self):
        told = [[(1, 2), (2, 2), (2, 3), (3, 1)], [(1, 2), (2, 2), (3, 1)], [(1,), (2,)]]
        self.assertEqual(thinned(ROADS, CHAIN), told)
        self.assertEqual(thinned(ROADS, CHAIN[::-1]), told[::-1])

    def test_rows_that_only_the_way_back_leaves_out(self):
        book = {"a": [(1, 1), (2, 2)], "b": [(1, 5), (2, 6)], "c": [(5,), (7,)]}
        lines = (line("a", "x", "y"), line("b", "y", "z"), line("c", "z"))
        self.assertEqual(ears(lines)[0], [(0, 1), (1, 2)])
        self.assertEqual(thinned(book, lines), [[(1, 1)], [(1, 5)], [(5,)]])

    def test_around_a_ring(self):
        self.assertEqual(thinned(ROADS, RING), [[(1, 2), (2, 2), (2, 3), (3, 1)]] * 3)
        # Each two of the three have partners all around, and the three have no match.
        book = {"a": [(1, 1), (2, 2)], "b": [(1, 1), (2, 2)], "c": [(1, 2), (2, 1)]}
        lines = (line("a", "x", "y"), line("b", "y", "z"), line("c", "z", "x"))
        self.assertEqual(thinned(book, lines), [[], [], []])
        book["c"].append((1, 1))
        self.assertEqual(thinned(book, lines), [[(1, 1)], [(1, 1)], [(1, 1)]])

    def test_a_ring_with_ears(self):
        lines = (line("road", "w", "x"),) + RING + (line("town", "w"),)
        self.assertEqual(ears(lines), ([(4, 0), (0, 1)], [1, 2, 3]))
        self.assertEqual(thinned(ROADS, lines), [
            [(1, 2), (2, 2), (2, 3)], [(2, 2), (2, 3), (3, 1)], [(1, 2), (2, 2), (3, 1)], [(1, 2), (2, 2), (2, 3)],
            [(1,), (2,)],
        ])

    def test_alike_lines(self):
        self.assertEqual(thinned(ROADS, (line("town", "x"), line("road", "x", 2), line("town", "x"))), [
            [(1,), (2,)], [(1, 2), (2, 2)], [(1,), (2,)],
        ])

    def test_without_a_match_no_row_is_left(self):
        self.assertEqual(thinned(ROADS, (line("town", "x"), line("bare", "y"))), [[], []])
        self.assertEqual(thinned(ROADS, (line("other", 1), line("town", "x"), line("road", "a", "b"))), [[], [], []])
        self.assertEqual(thinned(ROADS, RING + (line("town", 77),)), [[], [], [], []])
        self.assertEqual(thinned(ROADS, (line("road", 5, "x"), line("road", "x", "y"))), [[], []])

    def test_lines_without_a_common_name(self):
        lines = (line("town", "x"), line("road", 2, "y"))
        self.assertEqual(thinned(ROADS, lines), [[(-5,), (1,), (2,)], [(2, 2), (2, 3)]])
        self.assertEqual(thinned(ROADS, (line("town", 1), line("road", 3, 1))), [[(1,)], [(3, 1)]])

    def test_just_the_rows_that_take_part(self):
        for book, lines in all_cases():
            self.assertEqual(thinned(book, lines), tried_rows(book, lines), (book, lines))

    def test_each_list_is_the_askers_own(self):
        lines = (line("town", "x"), line("town", "x"), line("town", "y"))
        told = self.unchanged(thinned, ROADS, lines)
        self.assertEqual([type(told), type(told[0]), type(told[0][0])], [list, list, tuple])
        told[0].clear()
        self.assertEqual(told[1:], [[(-5,), (1,), (2,)]] * 2)
        told.clear()
        self.assertEqual(thinned(ROADS, lines), [[(-5,), (1,), (2,)]] * 3)


class TestMany(Refusing):
    def test_no_lines_and_lines_without_names(self):
        self.assertEqual(many({}, ()), 1)
        self.assertEqual(many(ROADS, (line("town", 1), line("road", 1, 2))), 1)
        self.assertEqual(many(ROADS, (line("town", 1), line("road", 2, 1))), 0)

    def test_ordinary_ones(self):
        self.assertEqual(many(ROADS, CHAIN), 4)
        self.assertEqual(many(ROADS, RING), 4)
        self.assertEqual(many(ROADS, (line("town", "x"), line("bare", "x"))), 0)
        self.assertEqual(many(ROADS, (line("other", "x"),)), 0)

    def test_alike_lines_and_names_that_stand_twice(self):
        self.assertEqual(many(ROADS, (line("town", "x"),) * 4), 3)
        self.assertEqual(many(ROADS, (line("road", "x", "x"), line("road", "y", "x"))), 2)
        self.assertEqual(many(ROADS, (line("road", "x", "y"), line("road", "x", "y"), line("town", "z"))), 15)

    def test_far_more_than_could_be_listed(self):
        book = {f"t{k}": rows(60) for k in range(5)}
        self.assertEqual(many(book, tuple(line(f"t{k}", f"x{k}") for k in range(5))), 60 ** 5)
        wide = {f"t{k}": [(j, 7) for j in range(60)] for k in range(5)}
        self.assertEqual(many(wide, tuple(line(f"t{k}", f"x{k}", "y") for k in range(5))), 60 ** 5)
        halves = {f"t{k}": [(j // 10, j % 10) for j in range(60)] for k in range(5)}
        chain = tuple(line(f"t{k}", f"x{k}", f"x{k + 1}") for k in range(5))
        # Only the figures from 0 to 5 lead on; the last name alone may be any of the ten.
        self.assertEqual(many(halves, chain), 6 ** 5 * 10)

    def test_a_ring_with_ears_that_have_far_more(self):
        book, lines = wheel((3, 3, 3))
        book["e"] = [(j % 3, j) for j in range(60)]
        more = lines + (line("e", "x0", "u"), line("e", "x1", "v"), line("e", "x0", "w"), line("e", "x2", "t"))
        self.assertEqual(ring(more), [0, 1, 2])
        self.assertEqual(many(book, more), 3 * 20 ** 4)

    def test_as_many_as_are_tried(self):
        for book, lines in all_cases():
            self.assertEqual(many(book, lines), len(tried_matches(book, lines)), (book, lines))

    def test_a_whole_number_and_all_as_it_was(self):
        for lines in [CHAIN, RING, (), (line("bare", "x"),)]:
            self.assertIs(type(self.unchanged(many, ROADS, lines)), int)


class TestLeastMatch(Refusing):
    def test_no_lines_and_no_match(self):
        self.assertEqual(least_match({}, ()), ())
        self.assertEqual(least_match(ROADS, ()), ())
        self.assertEqual(least_match(ROADS, (line("town", 1),)), ())
        for lines in [(line("town", 7),), (line("bare", "x"),), (line("town", "x"), line("other", "y"))]:
            self.assertIsNone(least_match(ROADS, lines))
        self.assertIsNone(least_match({"a": [(1, 2)]}, (line("a", "x", "y"), line("a", "y", "z"), line("a", "z", "x"))))

    def test_the_first_of_all_sorted(self):
        self.assertEqual(least_match(ROADS, CHAIN), (1, 2, 2))
        self.assertEqual(least_match(ROADS, RING), (1, 2, 3))
        self.assertEqual(least_match(ROADS, (line("town", "x"),)), (-5,))

    def test_by_the_order_of_names_not_of_letters_or_rows(self):
        book = {"t": [(1, 9), (2, 0)], "u": [(9, -FAR), (0, -FAR), (9, FAR), (0, 1)]}
        self.assertEqual(least_match(book, (line("t", "z", "a"), line("u", "a", "m"))), (1, 9, -FAR))
        self.assertEqual(least_match(book, (line("u", "a", "m"), line("t", "z", "a"))), (0, -FAR, 2))

    def test_the_least_numbers_of_lines_need_not_go_together(self):
        book = {"t": [(1, 5), (2, 0)], "u": [(5, 8), (0, 3), (5, 9)]}
        self.assertEqual(least_match(book, (line("t", "x", "y"), line("u", "y", "z"))), (1, 5, 8))
        book = {"t": [(0, 4), (1, 4), (1, 1)], "u": [(4, 1), (1, 1), (1, 0)]}
        self.assertEqual(least_match(book, (line("t", "x", "y"), line("u", "y", "x"))), (1, 1))

    def test_far_more_matches_than_could_be_listed(self):
        book = {f"t{k}": rows(60) for k in range(5)}
        self.assertEqual(least_match(book, tuple(line(f"t{k}", f"x{k}") for k in range(5))), (0,) * 5)

    def test_the_first_that_is_tried(self):
        for book, lines in all_cases():
            told = tried_matches(book, lines)
            self.assertEqual(least_match(book, lines), told[0] if told else None, (book, lines))

    def test_kinds_and_all_as_it_was(self):
        for lines in [CHAIN, RING, ()]:
            self.assertIs(type(self.unchanged(least_match, ROADS, lines)), tuple)
        self.assertIsNone(self.unchanged(least_match, ROADS, (line("bare", "x"),)))


class TestThePlan(Refusing):
    def test_no_lines_and_no_rows(self):
        self.assertEqual(told_of({}, ()), [[], 1, (), [()]])
        self.assertEqual(told_of({}, (line("t", "x"), line("u", "x"))), [[[], []], 0, None, []])
        self.assertEqual(plan_answers({}, []), [])
        self.assertEqual(plan_answers({}, [((), ())]), [()])
        self.assertEqual(plan_answers({}, [((), (line("t", "x"),))]), [])

    def test_ordinary_ones(self):
        self.assertEqual(plan_matches(ROADS, CHAIN), [(1, 2, 2), (2, 2, 2), (2, 3, 1), (3, 1, 2)])
        self.assertEqual(plan_matches(ROADS, RING), [(1, 2, 3), (2, 2, 2), (2, 3, 1), (3, 1, 2)])
        self.assertEqual(plan_matches(ROADS, (line("town", 1), line("road", 1, 2))), [()])
        question = [(("z", 7), CHAIN), (("x", "x"), (line("town", "x"),)), ((1, 7), ())]
        self.assertEqual(plan_answers(ROADS, question), [(-5, -5), (1, 1), (1, 7), (2, 2), (2, 7)])

    def test_the_same_as_the_walk(self):
        for book, lines in all_cases():
            self.assertEqual(plan_matches(book, lines), matches(book, lines), (book, lines))
            self.assertEqual(plan_matches(book, lines), tried_matches(book, lines), (book, lines))

    def test_the_same_answers_as_the_walk(self):
        for book, question in thrown_questions(200):
            if all(ways(book, lines) <= 300 for head, lines in question):
                self.assertEqual(plan_answers(book, question), answers(book, question), (book, question))
                self.assertEqual(plan_answers(book, question), tried_answers(book, question), (book, question))

    def test_told_where_the_walk_is_refused(self):
        book = {f"t{k}": [(j, j + 1) for j in reversed(range(60))] for k in range(5)}
        lines = tuple(line(f"t{k}", f"x{k}", f"x{k + 1}") for k in range(5))
        self.too_many(matches, book, lines)
        self.too_many(answers, book, [(("x5", "x0"), lines)])
        self.assertEqual(plan_matches(book, lines), [tuple(range(j, j + 6)) for j in range(56)])
        self.assertEqual(plan_answers(book, [(("x5", "x0"), lines)]), [(j + 5, j) for j in range(56)])
        self.assertEqual(least_match(book, lines), (0, 1, 2, 3, 4, 5))
        self.assertEqual(thinned(book, lines), [[(j, j + 1) for j in range(k, k + 56)] for k in range(5)])

    def test_what_is_told_is_the_askers_own(self):
        question = [(("x",), (line("town", "x"),)), ((7,), RING)]
        for ask, asked in [(plan_matches, CHAIN), (plan_matches, RING), (plan_answers, question)]:
            told = self.unchanged(ask, ROADS, asked)
            self.assertEqual([type(told), type(told[0])], [list, tuple])
            before = list(told)
            told.clear()
            self.assertEqual(ask(ROADS, asked), before)


class TestTooMany(Refusing):
    def refused(self, book, lines):
        for ask in (thinned, many, least_match, plan_matches):
            self.too_many(ask, book, lines)
        self.too_many(plan_answers, book, [((), lines)])

    def test_a_ring_just_at_4096_and_just_above(self):
        book, lines = wheel((16, 16, 16))
        self.assertEqual(many(book, lines), 16)
        self.assertEqual(least_match(book, lines), (0, 0, 0))
        self.assertEqual(plan_matches(book, lines), [(k, k, k) for k in range(16)])
        self.assertEqual(thinned(book, lines), [[(k, k) for k in range(16)]] * 3)
        # 4097 needs a table of more than sixty rows; 4100 is the next that doesn't.
        for lengths in [(1, 17, 241), (2, 41, 50), (16, 16, 17), (8, 8, 8, 9), (6, 6, 6, 6, 6)]:
            self.refused(*wheel(lengths))
        for lengths in [(1, 64, 64), (8, 8, 8, 8), (4, 4, 4, 8, 8)]:
            self.assertEqual(len(told_of(*wheel(lengths))), 4)

    def test_by_the_books_tables_not_by_what_is_thinned(self):
        book, lines = wheel((16, 16, 17))
        self.refused(book, lines + (line("t0", "x0", 3),))
        self.refused(book, lines + (line("other", "x0"),))
        book["t0"] = [(k, k + 100) for k in range(16)]
        self.refused(book, lines)
        wide = {table: [(k, k, 5) for k in range(len(own))] for table, own in book.items()}
        self.refused(wide, tuple((table, terms + (6,)) for table, terms in lines))

    def test_tables_without_rows_count_as_one(self):
        book, lines = wheel((60, 60, 0))
        self.assertEqual(ways(book, lines), 3600)
        self.assertEqual(told_of(book, lines), [[[], [], []], 0, None, []])
        book, lines = wheel((60, 60, 0, 2))
        self.refused(book, lines)

    def test_ears_of_a_ring_do_not_count(self):
        book, lines = wheel((16, 16, 16))
        book["e"] = [(k, 1) for k in range(60)]
        more = (line("e", "u", "v"),) + lines + (line("e", "x1", "w"),)
        self.assertEqual(ring(more), [1, 2, 3])
        self.assertEqual(many(book, more), 60 * 16)
        self.assertEqual(least_match(book, more), (0, 1, 0, 0, 0, 1))
        self.assertEqual(len(plan_matches(book, more)), 960)
        self.assertEqual([len(kept) for kept in thinned(book, more)], [60, 16, 16, 16, 16])

    def test_a_tree_whatever_its_ways_are(self):
        book = {"t": [(k, k) for k in reversed(range(60))]}
        lines = tuple(line("t", f"x{k}", f"x{k + 1}") for k in range(5))
        self.assertEqual(ways(book, lines), 60 ** 5)
        self.assertEqual(told_of(book, lines)[1:3], [60, (0,) * 6])
        self.assertEqual(plan_matches(book, lines), [(k,) * 6 for k in range(60)])
        self.assertEqual(plan_answers(book, [((), lines)]), [()])
        covered = wheel((60, 60, 60))
        covered[0]["all"] = [(k, k, k) for k in range(60)]
        self.assertEqual(len(plan_matches(covered[0], covered[1] + (line("all", "x0", "x1", "x2"),))), 60)

    def test_4096_matches_and_4097(self):
        book = {"a": rows(16), "b": rows(256), "p": rows(17), "q": rows(241)}
        at, above = (line("a", "x"), line("b", "y")), (line("p", "x"), line("q", "y"))
        self.assertEqual(plan_matches(book, at), [(j, k) for j in range(16) for k in range(256)])
        self.assertEqual(plan_answers(book, [(("y", "x"), at)]), [(k, j) for k in range(256) for j in range(16)])
        self.assertEqual(plan_answers(book, [((), at), ((), at)]), [()])
        self.too_many(plan_matches, book, above)
        self.too_many(plan_answers, book, [(("x", "y"), above)])
        self.too_many(plan_answers, book, [((), above)])
        self.assertEqual(many(book, above), 4097)
        self.assertEqual(least_match(book, above), (0, 0))
        self.assertEqual([len(kept) for kept in thinned(book, above)], [17, 241])

    def test_4096_matches_and_4097_within_the_bounds_of_books(self):
        book = {"t": [(0, k) for k in range(16)]}
        lines = (line("t", "x", "u"), line("t", "x", "v"), line("t", "x", "w"))
        self.assertEqual(len(plan_matches(book, lines)), 4096)
        self.assertEqual(plan_answers(book, [(("x",), lines)]), [(0,)])
        book["t"].append((1, 5))
        self.assertEqual(many(book, lines), 4097)
        self.assertEqual(least_match(book, lines), (0, 0, 0, 0))
        self.assertEqual(thinned(book, lines), [book["t"]] * 3)
        self.too_many(plan_matches, book, lines)
        self.too_many(plan_answers, book, [(("x",), lines)])

    def test_matches_of_a_ring_with_ears_above(self):
        book, lines = wheel((4, 4, 4))
        book["e"] = [(j % 4, j) for j in range(60)]
        more = lines + (line("e", "x0", "u"), line("e", "x1", "v"))
        self.assertEqual(len(plan_matches(book, more)), 4 * 15 ** 2)
        more = more + (line("e", "x2", "w"),)
        self.assertEqual(many(book, more), 4 * 15 ** 3)
        self.too_many(plan_matches, book, more)
        self.too_many(plan_answers, book, [(("x0",), more)])

    def test_a_question_with_one_such_alternative(self):
        book, around = wheel((16, 16, 17))
        book["s"] = rows(60)
        good = (("x",), (line("s", "x"),))
        none = (("x",), (line("other", "x"),))
        for bad in [(("x0",), around), (("x",), (line("s", "x"), line("s", "y"), line("s", "z")))]:
            for question in [[bad], [good, bad], [bad, good], [none, bad], [good, none, bad], [bad, bad, none]]:
                self.too_many(plan_answers, book, question)
        self.assertEqual(plan_answers(book, [good, none]), [(k,) for k in range(60)])

    def test_each_alternative_by_itself(self):
        book = {"a": rows(16), "b": rows(16), "c": rows(16)}
        at = ((), (line("a", "x"), line("b", "y"), line("c", "z")))
        self.assertEqual(plan_answers(book, [at, at, at]), [()])

    def test_never_refused_where_the_walk_is_not(self):
        tight = [wheel((16, 16, 16)), wheel((8, 8, 8, 8)), ({"t": rows(16)}, tuple(line("t", name) for name in "xyz"))]
        for book, lines in tight + list(thrown_cases(300)) + list(thrown_rings(200)):
            try:
                told = matches(book, lines)
            except TooMany:
                continue
            self.assertEqual(plan_matches(book, lines), told)


if __name__ == "__main__":
    unittest.main()
