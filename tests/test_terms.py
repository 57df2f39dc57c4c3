import copy
import unittest

from things import Asking, Sulky, odd_things

from askwithin.terms import (
    is_alternative, is_line, is_name, is_number, is_question, is_value,
    names_of, numbers_of, once, put_in, put_in_lines, tables_of,
)

SIXTY = int("9" * 60)
SEVENTY = int("9" * 70)
ASKING = [is_number, is_value, is_name, is_line, is_alternative, is_question]
GRAPH = (("road", ("x", "y")), ("road", ("y", 7)), ("town", ("x",)))


class TestNumbersAndNames(Asking):
    def test_numbers_go_to_sixty_figures(self):
        self.yes(is_number, 0, 1, -1, 7, SIXTY, -SIXTY, 10 ** 59, -(10 ** 59))
        self.no(is_number, SIXTY + 1, -SIXTY - 1, SEVENTY, -SEVENTY, SEVENTY + 1, 10 ** 5000)

    def test_values_go_to_seventy_figures(self):
        self.yes(is_value, 0, 1, -1, SIXTY, -SIXTY, SIXTY + 1, -SIXTY - 1, SEVENTY, -SEVENTY)
        self.no(is_value, SEVENTY + 1, -SEVENTY - 1, 10 ** 5000, -(10 ** 5000))

    def test_truths_are_no_whole_numbers(self):
        self.no(is_number, True, False)
        self.no(is_value, True, False)

    def test_other_kinds_are_no_numbers(self):
        for ask in (is_number, is_value):
            self.no(ask, None, "", "1", "-7", "x", [], [1], (), (1,), {}, {1: 1}, 1.0, 0.0, 2j, b"1")

    def test_names_have_one_to_twelve_signs(self):
        self.yes(is_name, "a", "z", "x1", "a0", "z9", "town", "abcdefghijkl", "a23456789012", "n1")
        self.no(is_name, "", "abcdefghijklm", "a234567890123", "a" * 5000)

    def test_every_small_letter_and_every_figure_may_stand(self):
        for sign in "abcdefghijklmnopqrstuvwxyz":
            self.yes(is_name, sign, "x" + sign)
        for sign in "0123456789":
            self.yes(is_name, "x" + sign)
            self.no(is_name, sign, sign + "x")

    def test_other_signs_may_not(self):
        for sign in "ABCXYZ_-.,:;|+* \t\n\r\v\0`{/@[\u00e4\u00df\u0660\u00b2\uff41\u0131\ud800":
            self.no(is_name, sign, sign + "x", "x" + sign, "x" + sign + "x")

    def test_other_kinds_are_no_names(self):
        self.no(is_name, None, True, 1, 0, [], ["a"], (), ("a",), {}, {"a": 1}, b"a", {"a"}, ["a", "b"])


class TestLines(Asking):
    def test_a_line_is_a_table_with_one_to_six_terms(self):
        self.yes(is_line, ("t", ("x",)), ("t", (7,)), ("x", ("x", "x")), ("t", ("a", 1, "b", -2, "c", 0)))
        self.no(is_line, ("t", ()), ("t", ("a", 1, "b", -2, "c", 0, "d")))

    def test_its_terms_are_names_and_numbers(self):
        self.yes(is_line, ("t", (SIXTY, -SIXTY, "abcdefghijkl")))
        for term in [SIXTY + 1, -SIXTY - 1, SEVENTY, "abcdefghijklm", "", "X", "1", True, False, None, 1.0]:
            self.no(is_line, ("t", (term,)), ("t", ("x", term)), ("t", (term, "x")))
        for term in [(), ("x",), [], ["x"], {}, Sulky()]:
            self.no(is_line, ("t", ("x", term)))

    def test_its_table_is_a_name(self):
        self.yes(is_line, ("abcdefghijkl", ("x",)))
        self.no(is_line, ("abcdefghijklm", ("x",)), ("", ("x",)), ("T", ("x",)), ("1t", ("x",)), (1, ("x",)))
        self.no(is_line, (None, ("x",)), (["t"], ("x",)), (("t",), ("x",)), ({}, ("x",)), (True, ("x",)))

    def test_it_is_a_tuple_of_two(self):
        self.no(is_line, ["t", ("x",)], ("t", ["x"]), ("t", "x"), "tx", ("t",), ("t", ("x",), ()), ())
        self.no(is_line, ("t", "x", "y"), {"t": ("x",)}, ("t", {"x": 1}), ("t", None), ("t", 1), (("x",), "t"))


class TestAlternatives(Asking):
    def test_ordinary_ones(self):
        self.yes(is_alternative, (("x", 7), GRAPH), ((), ()), ((), GRAPH), ((1, 2, 3, 4), ()), (("x", "x"), GRAPH))

    def test_a_head_has_none_to_four_terms(self):
        self.yes(is_alternative, (("x", "y", "x", 3), GRAPH), ((SIXTY,), ()))
        self.no(is_alternative, (("x", "y", "x", 3, 3), GRAPH), ((1, 2, 3, 4, 5), ()))
        self.no(is_alternative, ((SIXTY + 1,), ()), ((True,), ()), ((None,), ()), (("X",), GRAPH), (([],), GRAPH))

    def test_there_are_none_to_five_lines(self):
        line = ("t", ("x",))
        self.yes(is_alternative, (("x",), (line,)), (("x",), (line,) * 5), ((), (line,) * 2))
        self.yes(is_alternative, ((), tuple((f"t{k}", ("x", k)) for k in range(5))))
        self.no(is_alternative, (("x",), (line,) * 6), ((), tuple((f"t{k}", ("x", k)) for k in range(6))))

    def test_each_name_of_the_head_stands_in_a_line(self):
        self.yes(is_alternative, (("y",), (("t", (1,)), ("u", (1, "y")))))
        self.no(is_alternative, (("x",), ()), (("z",), GRAPH), (("x", "z"), GRAPH), (("z", "x"), GRAPH))
        self.no(is_alternative, (("road",), GRAPH), (("t",), (("t", ("x",)),)))

    def test_a_table_has_one_width(self):
        self.no(is_alternative, ((), (("t", ("x",)), ("t", ("x", "y")))))
        self.no(is_alternative, ((), (("t", ("x", 1)), ("u", ("x",)), ("t", ("x",)))))
        self.yes(is_alternative, ((), (("t", ("x", 1)), ("u", ("x",)), ("t", ("y", "y")))))

    def test_tuples_are_tuples(self):
        self.no(is_alternative, [("x",), GRAPH], (["x"], GRAPH), (("x",), list(GRAPH)), (("x",), GRAPH, ()), (("x",),))
        self.no(is_alternative, ((), (["t", ("x",)],)), ((), (("t", ["x"]),)), ((), ([],)), ((), (None,)), ((), None))
        self.no(is_alternative, ("x", GRAPH), ((), GRAPH[0]), ({}, ()), ((), {}), (GRAPH, ("x",)), GRAPH)


class TestQuestions(Asking):
    def test_ordinary_ones(self):
        self.yes(is_question, [(("x", 7), GRAPH), (("x", "x"), (("town", ("x",)),))], [], [((), ())])

    def test_there_are_none_to_three_alternatives(self):
        one = (("x",), (("t", ("x",)),))
        self.yes(is_question, [one], [one] * 2, [one] * 3)
        self.no(is_question, [one] * 4, [((), ())] * 4)

    def test_heads_are_of_one_length(self):
        self.yes(is_question, [(("x",), GRAPH), ((3,), ()), (("y",), GRAPH)])
        self.no(is_question, [(("x",), GRAPH), ((), ())], [((), ()), ((), ()), ((1,), ())], [((1, 2), ()), ((1,), ())])

    def test_a_table_has_one_width_in_all_of_its_lines(self):
        narrow = ((), (("t", ("x",)),))
        wide = ((), (("t", ("x", "y")),))
        self.no(is_question, [narrow, wide], [wide, narrow], [narrow, ((), ()), wide])
        self.yes(is_question, [wide, ((), ()), ((), (("u", ("x",)), ("t", (1, 2))))])
        self.no(is_question, [((), (("t", ("x",)), ("t", ("x", "y"))))])

    def test_each_alternative_is_one(self):
        good = (("x",), GRAPH)
        for bad in [(("z",), GRAPH), [("x",), GRAPH], None, (), ((SIXTY + 1,), ()), (("x",), GRAPH * 2)]:
            self.no(is_question, [bad], [good, bad], [bad, good])

    def test_it_is_a_list(self):
        good = (("x",), GRAPH)
        self.no(is_question, (), (good,), good, {0: good}, {}, None, "none", True, 0)


class TestThingsOfAnyKind(Asking):
    def test_each_is_told_true_or_false(self):
        for ask in ASKING:
            self.no(ask, *odd_things())

    def test_odd_things_in_each_place(self):
        for thing in odd_things():
            self.no(is_line, (thing, ("x",)), ("t", thing), ("t", ("x", thing)), (thing, thing))
            self.no(is_alternative, ((thing,), ()), ((), (thing,)), (("x", thing), (("t", ("x",)),)))
            self.no(is_question, [thing], [((), ()), thing], [((), (thing,))])

    def test_odd_things_as_head_and_as_lines(self):
        for thing in odd_things():
            if not (isinstance(thing, tuple) and len(thing) == 0):
                self.no(is_alternative, (thing, ()), ((), thing))

    def test_what_is_asked_stays(self):
        question = [(("x", 7), GRAPH), ((1, 2), ())]
        before = copy.deepcopy(question)
        for again in range(2):
            self.assertIs(is_question(question), True)
            self.assertEqual(question, before)


class TestNamesOf(unittest.TestCase):
    def test_in_the_order_in_which_they_first_stand(self):
        lines = (("a", ("z", 3, "y")), ("b", ("y", "x", "z")), ("a", ("w", "b", "w")))
        self.assertEqual(names_of(lines), ["z", "y", "x", "w", "b"])

    def test_tables_are_not_among_them(self):
        self.assertEqual(names_of((("a", ("b",)), ("b", ("c",)))), ["b", "c"])

    def test_none(self):
        self.assertEqual(names_of(()), [])
        self.assertEqual(names_of((("t", (1, SEVENTY)),)), [])

    def test_the_list_is_the_askers_own(self):
        first = names_of(GRAPH)
        self.assertIs(type(first), list)
        first.append("more")
        self.assertEqual(names_of(GRAPH), ["x", "y"])


class TestTablesOf(unittest.TestCase):
    def test_sorted_each_once(self):
        lines = (("town", ("x",)), ("road", ("x", "y")), ("a", (1, 2, 3)), ("road", ("y", 7)), ("town", ("y",)))
        self.assertEqual(tables_of(lines), [("a", 3), ("road", 2), ("town", 1)])

    def test_none(self):
        self.assertEqual(tables_of(()), [])

    def test_the_list_is_the_askers_own(self):
        first = tables_of(GRAPH)
        self.assertIs(type(first), list)
        self.assertEqual([type(pair) for pair in first], [tuple, tuple])
        first.clear()
        self.assertEqual(tables_of(GRAPH), [("road", 2), ("town", 1)])


class TestNumbersOf(unittest.TestCase):
    def test_of_head_and_lines_sorted_each_once(self):
        lines = (("t", (9, "x", -2)), ("u", (10, "y")), ("t", (9, 0, -30)))
        self.assertEqual(numbers_of(((7, "x", 9), lines)), [-30, -2, 0, 7, 9, 10])

    def test_of_the_head_alone_and_of_the_lines_alone(self):
        self.assertEqual(numbers_of(((5, 4), ())), [4, 5])
        self.assertEqual(numbers_of(((), (("t", (5, 4)),))), [4, 5])
        self.assertEqual(numbers_of((("x",), (("t", ("x",)),))), [])
        self.assertEqual(numbers_of(((), ())), [])

    def test_values_are_told_too(self):
        self.assertEqual(numbers_of(((SEVENTY,), (("t", (-SEVENTY, "x")),))), [-SEVENTY, SEVENTY])

    def test_the_list_is_the_askers_own(self):
        alternative = ((2,), (("t", (1,)),))
        first = numbers_of(alternative)
        self.assertIs(type(first), list)
        first.append(8)
        self.assertEqual(numbers_of(alternative), [1, 2])
        self.assertEqual(alternative, ((2,), (("t", (1,)),)))


class TestPutIn(unittest.TestCase):
    def test_names_become_what_is_told_others_stay(self):
        terms = put_in(("x", 3, "y", "x", "z"), {"x": 5, "y": "w", "u": 9})
        self.assertEqual(terms, (5, 3, "w", 5, "z"))
        self.assertIs(type(terms), tuple)

    def test_all_at_once(self):
        self.assertEqual(put_in(("x", "y"), {"x": "y", "y": "x"}), ("y", "x"))
        self.assertEqual(put_in(("x", "y"), {"y": "x", "x": "y"}), ("y", "x"))
        self.assertEqual(put_in(("x", "y", "z"), {"x": "y", "y": "z", "z": 1}), ("y", "z", 1))

    def test_nothing(self):
        self.assertEqual(put_in((), {"x": 1}), ())
        self.assertEqual(put_in(("x", 4), {}), ("x", 4))

    def test_values_nought_and_alike_names(self):
        self.assertEqual(put_in(("x", "y", "z"), {"x": SEVENTY, "y": -SEVENTY, "z": 0}), (SEVENTY, -SEVENTY, 0))
        self.assertEqual(put_in((SEVENTY, "x"), {"x": "x"}), (SEVENTY, "x"))

    def test_what_is_handed_in_stays(self):
        known = {"x": "y", "y": 2}
        terms = put_in(("x", "y"), known)
        self.assertEqual(known, {"x": "y", "y": 2})
        known["x"] = 9
        known.clear()
        self.assertEqual(terms, ("y", 2))


class TestPutInLines(unittest.TestCase):
    def test_as_many_lines_alike_ones_too(self):
        lines = (("t", ("x", "y")), ("t", ("y", "x")), ("u", (1,)))
        told = put_in_lines(lines, {"x": 4, "y": 4})
        self.assertEqual(told, (("t", (4, 4)), ("t", (4, 4)), ("u", (1,))))
        self.assertIs(type(told), tuple)
        self.assertEqual([(type(line), type(line[1])) for line in told], [(tuple, tuple)] * 3)

    def test_all_at_once(self):
        told = put_in_lines((("t", ("x", "y")), ("u", ("y",))), {"x": "y", "y": "x"})
        self.assertEqual(told, (("t", ("y", "x")), ("u", ("x",))))

    def test_tables_are_no_names_of_terms(self):
        self.assertEqual(put_in_lines((("x", ("x",)),), {"x": 1}), (("x", (1,)),))

    def test_nothing(self):
        self.assertEqual(put_in_lines((), {"x": 1}), ())
        self.assertEqual(put_in_lines(GRAPH, {}), GRAPH)

    def test_values_and_what_is_handed_in(self):
        known = {"x": SEVENTY}
        told = put_in_lines(GRAPH, known)
        known["x"] = 1
        self.assertEqual(told, (("road", (SEVENTY, "y")), ("road", ("y", 7)), ("town", (SEVENTY,))))
        self.assertEqual(GRAPH, (("road", ("x", "y")), ("road", ("y", 7)), ("town", ("x",))))


class TestOnce(unittest.TestCase):
    def test_the_first_of_those_that_are_alike(self):
        b, a, c = ("t", ("y",)), ("t", ("x",)), ("u", ("y",))
        told = once((b, a, b, c, a, a))
        self.assertEqual(told, (b, a, c))
        self.assertIs(type(told), tuple)

    def test_order_stays(self):
        self.assertEqual(once(GRAPH[::-1]), GRAPH[::-1])
        self.assertEqual(once(GRAPH), GRAPH)

    def test_lines_that_differ_in_one_thing_all_stay(self):
        lines = (("t", ("x", 1)), ("t", (1, "x")), ("t", ("x", "x")), ("u", ("x", 1)), ("t", ("x", SEVENTY)))
        self.assertEqual(once(lines), lines)

    def test_none(self):
        self.assertEqual(once(()), ())


if __name__ == "__main__":
    unittest.main()
