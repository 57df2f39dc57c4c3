import unittest

from things import FAR, Refusing, Unwalked, line, rows, thrown_cases, thrown_questions, tried_answers, tried_matches

from askwithin.walk import answers, fits, matches, ways

ROADS = {"road": [(3, 1), (1, 2), (2, 3), (2, 2)], "town": [(2,), (-5,), (1,)], "bare": []}
SIXES = {"a": rows(32), "b": rows(16), "c": rows(8), "d": rows(17), "e": rows(1), "bare": []}


class TestFits(Refusing):
    def test_names_get_their_numbers(self):
        self.assertEqual(fits(line("t", "x", "y"), (3, -7), {}), {"x": 3, "y": -7})
        self.assertEqual(fits(line("t", "x"), (FAR,), {}), {"x": FAR})

    def test_a_row_too_short_and_too_long(self):
        for row in [(), (1,), (1, 2, 3)]:
            self.assertIsNone(fits(line("t", "x", "y"), row, {}))
        self.assertIsNone(fits(line("t", "x", "x"), (1,), {}))
        self.assertIsNone(fits(line("t", 1), (1, 1), {}))

    def test_numbers_in_their_places(self):
        self.assertEqual(fits(line("t", 4, "x", -FAR), (4, 0, -FAR), {}), {"x": 0})
        self.assertEqual(fits(line("t", 4), (4,), {}), {})
        for row in [(5, 0, 6), (4, 0, 5), (6, 0, 4), (-4, 0, 6)]:
            self.assertIsNone(fits(line("t", 4, "x", 6), row, {}))
        self.assertIsNone(fits(line("t", FAR), (FAR - 1,), {}))

    def test_a_name_that_stands_twice(self):
        self.assertEqual(fits(line("t", "x", 1, "x"), (0, 1, 0), {}), {"x": 0})
        self.assertIsNone(fits(line("t", "x", 1, "x"), (0, 1, 2), {}))
        self.assertIsNone(fits(line("t", "x", "y", "y", "x"), (1, 2, 2, 3), {}))

    def test_known_names(self):
        self.assertEqual(fits(line("t", "x", "y"), (0, 2), {"x": 0}), {"x": 0, "y": 2})
        self.assertIsNone(fits(line("t", "x", "y"), (0, 2), {"x": 1}))
        self.assertIsNone(fits(line("t", "x", "y"), (1, 2), {"y": 0}))
        self.assertIsNone(fits(line("t", "x", "x"), (1, 1), {"x": 2}))

    def test_other_known_names_stay_known(self):
        self.assertEqual(fits(line("t", "x"), (1,), {"z": 9, "t": 0}), {"z": 9, "t": 0, "x": 1})
        self.assertEqual(fits(line("t", 1), (1,), {"z": 9}), {"z": 9})

    def test_a_new_dict_each_time_and_known_as_it_was(self):
        known = {"x": 1}
        for asked, row in [(line("t", "x"), (1,)), (line("t", 5), (5,)), (line("t", "y", "x"), (2, 1))]:
            told = self.unchanged(fits, asked, row, known)
            self.assertIs(type(told), dict)
            self.assertIsNot(told, known)
            told["x"] = 8
            self.assertEqual(known, {"x": 1})
        self.assertIsNone(self.unchanged(fits, line("t", "y", "x"), (1, 2), known))


class TestWays(Refusing):
    def test_no_lines(self):
        self.assertEqual(ways({}, ()), 1)
        self.assertEqual(ways(ROADS, ()), 1)

    def test_the_product_of_the_rows(self):
        self.assertEqual(ways(ROADS, (line("road", "x", "y"),)), 4)
        self.assertEqual(ways(ROADS, (line("road", "x", "y"), line("town", "x"))), 12)

    def test_rows_count_whether_they_fit_or_not(self):
        self.assertEqual(ways(ROADS, (line("road", 77, "x"), line("town", 77))), 12)

    def test_tables_without_rows_and_no_such_table(self):
        self.assertEqual(ways(ROADS, (line("bare", "x"),)), 1)
        self.assertEqual(ways(ROADS, (line("other", "x"),)), 1)
        self.assertEqual(ways(ROADS, (line("town", "x"), line("bare", "x"), line("road", "x", "y"))), 12)
        self.assertEqual(ways({}, (line("town", "x"), line("other", "x"))), 1)

    def test_alike_lines_count_each_time(self):
        self.assertEqual(ways(ROADS, (line("town", "x"),) * 4), 81)

    def test_far_above_what_could_be_walked(self):
        self.assertEqual(ways({"t": rows(60)}, (line("t", "x"),) * 5), 60 ** 5)

    def test_a_whole_number_and_all_as_it_was(self):
        self.assertIs(type(self.unchanged(ways, ROADS, (line("town", "x"), line("bare", "x")))), int)


class TestMatches(Refusing):
    def test_no_lines_have_one_match(self):
        for book in [{}, ROADS]:
            self.assertEqual(matches(book, ()), [()])

    def test_lines_without_names_have_one_match_or_none(self):
        self.assertEqual(matches(ROADS, (line("road", 1, 2),)), [()])
        self.assertEqual(matches(ROADS, (line("road", 1, 2), line("town", -5), line("road", 1, 2))), [()])
        self.assertEqual(matches(ROADS, (line("road", 2, 1),)), [])
        self.assertEqual(matches(ROADS, (line("town", 1), line("road", 2, 1))), [])

    def test_one_line(self):
        self.assertEqual(matches(ROADS, (line("road", "x", "y"),)), [(1, 2), (2, 2), (2, 3), (3, 1)])
        self.assertEqual(matches(ROADS, (line("road", "x", "x"),)), [(2,)])
        self.assertEqual(matches(ROADS, (line("road", 2, "x"),)), [(2,), (3,)])

    def test_lines_with_common_names(self):
        two = (line("road", "x", "y"), line("road", "y", "z"))
        self.assertEqual(matches(ROADS, two), [(1, 2, 2), (1, 2, 3), (2, 2, 2), (2, 2, 3), (2, 3, 1), (3, 1, 2)])
        self.assertEqual(matches(ROADS, two + (line("road", "z", "x"),)), [(1, 2, 3), (2, 2, 2), (2, 3, 1), (3, 1, 2)])

    def test_lines_without_common_names(self):
        self.assertEqual(
            matches(ROADS, (line("town", "x"), line("road", 2, "y"))),
            [(-5, 2), (-5, 3), (1, 2), (1, 3), (2, 2), (2, 3)],
        )

    def test_alike_lines(self):
        self.assertEqual(matches(ROADS, (line("town", "x"),) * 3), [(-5,), (1,), (2,)])

    def test_tables_without_rows_and_no_such_table(self):
        for table in ["bare", "other"]:
            self.assertEqual(matches(ROADS, (line(table, "x"),)), [])
            self.assertEqual(matches(ROADS, (line("town", "x"), line(table, "y"))), [])
            self.assertEqual(matches(ROADS, (line(table, 1), line("town", "x"))), [])

    def test_a_table_and_a_name_that_read_alike(self):
        self.assertEqual(matches(ROADS, (line("town", "town"), line("road", "town", "road"))), [(1, 2), (2, 2), (2, 3)])

    def test_names_in_the_order_in_which_they_first_stand(self):
        self.assertEqual(matches({"t": [(1, 2, 3)]}, (line("t", "z", "a", "m"),)), [(1, 2, 3)])
        self.assertEqual(matches({"t": [(1, 2)]}, (line("t", "z", "y"), line("t", "b", "a"))), [(1, 2, 1, 2)])
        book = {"t": [(1, 2)], "u": [(2, 5)]}
        self.assertEqual(matches(book, (line("t", "c", "b"), line("u", "b", "a"))), [(1, 2, 5)])
        self.assertEqual(matches(book, (line("u", "b", "a"), line("t", "c", "b"))), [(2, 5, 1)])

    def test_sorted_by_numbers(self):
        book = {"t": [(10,), (9,), (-10,), (-9,), (FAR,), (-FAR,), (0,), (100,)]}
        told = [(-FAR,), (-10,), (-9,), (0,), (9,), (10,), (100,), (FAR,)]
        self.assertEqual(matches(book, (line("t", "x"),)), told)
        pairs = {"t": [(1, -1), (-1, FAR), (1, -FAR), (-1, 5)]}
        self.assertEqual(matches(pairs, (line("t", "x", "y"),)), [(-1, 5), (-1, FAR), (1, -FAR), (1, -1)])
        self.assertEqual(matches(pairs, (line("t", "x", "y"), line("t", "z", FAR))), [
            (-1, 5, -1), (-1, FAR, -1), (1, -FAR, -1), (1, -1, -1),
        ])

    def test_lines_with_values(self):
        book = {"t": [(FAR, 1), (-FAR, 2)]}
        self.assertEqual(matches(book, (line("t", FAR, "x"), line("t", -FAR, "y"))), [(1, 2)])

    def test_against_trying(self):
        for book, lines in thrown_cases(300):
            if ways(book, lines) <= 700:
                self.assertEqual(matches(book, lines), tried_matches(book, lines), (book, lines))

    def test_many_lines(self):
        lines = tuple(line("t", f"x{k}", f"x{k + 1}") for k in range(2000))
        self.assertEqual(matches({"t": [(4, 4)]}, lines), [(4,) * 2001])

    def test_what_is_told_is_the_askers_own(self):
        lines = (line("town", "x"), line("road", "x", "y"))
        told = self.unchanged(matches, ROADS, lines)
        self.assertIs(type(told), list)
        self.assertEqual({type(match) for match in told}, {tuple})
        told.clear()
        self.assertEqual(matches(ROADS, lines), [(1, 2), (2, 2), (2, 3)])
        book = {"town": [(1,)]}
        told = matches(book, (line("town", "x"),))
        book["town"].append((2,))
        self.assertEqual(told, [(1,)])
        told.append((9,))
        self.assertEqual(book, {"town": [(1,), (2,)]})


class TestTooManyWays(Refusing):
    def test_just_at_4096_and_just_above(self):
        at = (line("a", "x"), line("b", "y"), line("c", "z"))
        self.assertEqual(ways(SIXES, at), 4096)
        self.assertEqual(len(self.unchanged(matches, SIXES, at)), 4096)
        self.assertEqual(len(answers(SIXES, [(("x", "y", "z"), at)])), 4096)
        # No product of tables of at most sixty rows is 4097: so one is longer here, and 4100 is the next one.
        for lengths in [(17, 241), (2, 41, 50)]:
            book = {f"t{k}": rows(length) for k, length in enumerate(lengths)}
            above = tuple(line(table, "x" + table) for table in book)
            self.assertIn(ways(book, above), [4097, 4100])
            self.too_many(matches, book, above)
            self.too_many(answers, book, [((), above)])

    def test_tables_without_rows_count_as_one(self):
        lines = (line("a", "x"), line("b", "x"), line("bare", "x"), line("other", "x"), line("e", "x"))
        self.assertEqual(matches(SIXES, lines), [])
        self.assertEqual(ways(SIXES, lines + (line("c", "x"),)), 4096)
        self.assertEqual(matches(SIXES, lines + (line("c", "x"),)), [])
        self.too_many(matches, SIXES, lines + (line("d", "x"),))
        self.too_many(matches, SIXES, (line("bare", "x"), line("a", "x"), line("a", "x"), line("c", "x")))

    def test_where_no_row_fits(self):
        self.too_many(matches, SIXES, (line("a", 999), line("a", 999), line("d", 999)))
        self.too_many(matches, SIXES, (line("other", 1), line("a", "x"), line("a", "y"), line("c", 999)))
        self.too_many(answers, SIXES, [((), (line("a", 999), line("a", "x"), line("c", "x")))])

    def test_alike_lines_without_more_matches(self):
        self.too_many(matches, SIXES, (line("d", "x"),) * 3)
        self.assertEqual(len(matches(SIXES, (line("b", "x"),) * 3)), 16)

    def test_ahead_of_all_work(self):
        self.too_many(matches, {"t": rows(60)}, (line("t", "x"), line("t", "y"), line("t", "z")) * 4)
        self.too_many(matches, {"t": rows(60, 6)}, (line("t", "x", "y", "z", "u", "v", "w"),) * 5)

    def test_no_row_is_looked_at_ahead_of_the_refusal(self):
        book = {"a": Unwalked(rows(60)), "c": Unwalked(rows(4))}
        bad = (line("c", "x"), line("a", "x"), line("a", "y"))
        for lines in [bad, bad[::-1]]:
            self.too_many(matches, book, lines)
            self.too_many(answers, book, [(("x",), lines)])
        self.too_many(answers, book, [(("x",), (line("c", "x"),)), (("x",), bad)])

    def test_a_question_with_one_such_alternative(self):
        good = (("x",), (line("c", "x"),))
        bad = (("x",), (line("a", "x"), line("a", "y"), line("c", "x")))
        none = (("x",), (line("bare", "x"),))
        for question in [[bad], [good, bad], [bad, good], [none, bad], [good, none, bad], [bad, bad, none]]:
            self.too_many(answers, SIXES, question)
        self.assertEqual(answers(SIXES, [good, none]), [(k,) for k in range(8)])

    def test_each_alternative_by_itself(self):
        at = ((), (line("a", "x"), line("b", "y"), line("c", "z")))
        self.assertEqual(answers(SIXES, [at, at, at]), [()])


class TestAnswers(Refusing):
    def test_no_alternatives(self):
        self.assertEqual(answers(ROADS, []), [])
        self.assertEqual(answers({}, []), [])

    def test_ordinary_ones(self):
        lines = (line("road", "x", "y"), line("road", "y", "z"))
        self.assertEqual(answers(ROADS, [(("x", "z"), lines)]), [(1, 2), (1, 3), (2, 1), (2, 2), (2, 3), (3, 2)])
        self.assertEqual(answers(ROADS, [(("z",), lines)]), [(1,), (2,), (3,)])
        self.assertEqual(answers(ROADS, [(("y", "x", "y"), lines[:1])]), [(1, 3, 1), (2, 1, 2), (2, 2, 2), (3, 2, 3)])

    def test_heads_without_terms(self):
        self.assertEqual(answers(ROADS, [((), (line("town", "x"),))]), [()])
        self.assertEqual(answers(ROADS, [((), ())]), [()])
        self.assertEqual(answers({}, [((), ()), ((), ())]), [()])
        self.assertEqual(answers(ROADS, [((), (line("town", 7),))]), [])
        self.assertEqual(answers(ROADS, [((), (line("bare", "x"),)), ((), (line("town", "x"),))]), [()])

    def test_heads_with_numbers(self):
        self.assertEqual(answers(ROADS, [((7, "x", -FAR), (line("road", "x", "x"),))]), [(7, 2, -FAR)])
        self.assertEqual(answers(ROADS, [((4, 5), ())]), [(4, 5)])
        self.assertEqual(answers(ROADS, [((4,), (line("town", "x"),))]), [(4,)])
        self.assertEqual(answers(ROADS, [((4,), (line("bare", "x"),))]), [])

    def test_two_alternatives_with_the_same_answer(self):
        question = [(("x",), (line("town", "x"),)), (("y",), (line("road", 2, "y"),)), ((2,), ())]
        self.assertEqual(answers(ROADS, question), [(-5,), (1,), (2,), (3,)])
        self.assertEqual(answers(ROADS, question[::-1]), [(-5,), (1,), (2,), (3,)])

    def test_names_of_two_alternatives_have_nothing_to_do_with_one_another(self):
        question = [(("x", "y"), (line("road", "x", "y"),)), (("y", "x"), (line("road", "y", "x"),))]
        self.assertEqual(answers(ROADS, question), [(1, 2), (2, 2), (2, 3), (3, 1)])
        question = [(("x",), (line("road", "x", 1),)), (("x",), (line("road", 1, "x"),))]
        self.assertEqual(answers(ROADS, question), [(2,), (3,)])

    def test_no_such_table(self):
        self.assertEqual(answers(ROADS, [(("x",), (line("other", "x"),))]), [])
        self.assertEqual(answers({}, [(("x",), (line("town", "x"),)), ((3,), ())]), [(3,)])

    def test_sorted_by_numbers(self):
        book = {"t": [(10, 1), (9, 1), (-10, 2), (-9, 2), (FAR, 0), (-FAR, 0)]}
        told = answers(book, [(("y", "x"), (line("t", "x", "y"),)), ((1, -100), ()), ((-3, 0), ())])
        self.assertEqual(told, [(-3, 0), (0, -FAR), (0, FAR), (1, -100), (1, 9), (1, 10), (2, -10), (2, -9)])

    def test_against_trying(self):
        for book, question in thrown_questions(200):
            if all(ways(book, lines) <= 300 for head, lines in question):
                self.assertEqual(answers(book, question), tried_answers(book, question), (book, question))

    def test_what_is_told_is_the_askers_own(self):
        question = [(("x",), (line("town", "x"),)), ((7,), ())]
        told = self.unchanged(answers, ROADS, question)
        self.assertIs(type(told), list)
        self.assertEqual({type(row) for row in told}, {tuple})
        told.clear()
        self.assertEqual(answers(ROADS, question), [(-5,), (1,), (2,), (7,)])
        told = answers(ROADS, question)
        question.clear()
        self.assertEqual(told, [(-5,), (1,), (2,), (7,)])


if __name__ == "__main__":
    unittest.main()
