import copy
import unittest

from things import Asking, odd_things

from askwithin.books import Book, is_book, is_row
from askwithin.errors import AskError, Full, NoRow, NoTable

SEVENTY = int("9" * 70)
WIDTHS = [("town", 1), ("road", 2), ("lane", 6)]
WIDE = (1, 2, 3, 4, 5, 6)


class TestRows(Asking):
    def test_one_to_six_values(self):
        self.yes(is_row, (0,), (3, -7, 0), WIDE, (1, 1))
        self.no(is_row, (), WIDE + (7,))

    def test_values_go_to_seventy_figures(self):
        self.yes(is_row, (SEVENTY,), (-SEVENTY, 1))
        self.no(is_row, (SEVENTY + 1,), (1, -SEVENTY - 1))

    def test_each_is_a_value(self):
        for bad in [True, False, None, "1", "x", 1.0, [], [1], (), (1,), {}]:
            self.no(is_row, (bad,), (1, bad), (bad, 1), (1, bad, 1))

    def test_a_row_is_a_tuple(self):
        self.no(is_row, [1], [], {1: 1}, {1}, "1", 1, True, None, range(2), b"1")

    def test_things_of_any_kind(self):
        for thing in odd_things():
            self.no(is_row, thing, (thing,), (1, thing), (thing, 1))


class TestPlainBooks(Asking):
    def test_ordinary_ones(self):
        self.yes(is_book, {}, {"t": []}, {"t": [(1,)]}, {"t": [(3, -7), (1, 2)], "u": [(1,)], "abcdefghijkl": [WIDE]})

    def test_at_most_twelve_tables(self):
        self.yes(is_book, {f"t{k}": [(k,)] for k in range(12)})
        self.no(is_book, {f"t{k}": [(k,)] for k in range(13)}, {f"t{k}": [] for k in range(13)})

    def test_at_most_sixty_rows(self):
        self.yes(is_book, {"t": [(k,) for k in range(60)]}, {f"t{j}": [(k, j) for k in range(60)] for j in range(12)})
        self.no(is_book, {"t": [(k,) for k in range(61)]}, {"u": [], "t": [(k,) for k in range(61)]})

    def test_no_row_twice(self):
        self.no(is_book, {"t": [(1,), (1,)]}, {"t": [(1, 2), (2, 1), (1, 2)]}, {"u": [], "t": [(1,), (1,)]})
        self.yes(is_book, {"t": [(1, 2), (2, 1)]}, {"t": [(1,)], "u": [(1,)]})

    def test_rows_of_one_length_in_a_list(self):
        self.no(is_book, {"t": [(1,), (1, 2)]}, {"t": [(1, 2), (3, 4), (1,)]})
        self.yes(is_book, {"t": [(1,)], "u": [(1, 2)]})

    def test_rows_have_one_to_six_values(self):
        self.yes(is_book, {"t": [WIDE]}, {"t": [(SEVENTY,), (-SEVENTY,)]})
        self.no(is_book, {"t": [()]}, {"t": [WIDE + (7,)]}, {"t": [(SEVENTY + 1,)]}, {"t": [(1,), (-SEVENTY - 1,)]})

    def test_tables_are_names(self):
        self.no(is_book, {"": []}, {"T": []}, {"1": []}, {"abcdefghijklm": []}, {"t\n": []}, {"t": [], "U": []})
        self.no(is_book, {1: []}, {None: []}, {("t",): []}, {True: []})

    def test_each_row_is_one(self):
        for bad in [(True,), (None,), ("x",), [1], 1, None, {}, ([],), ({},), (1.0,)]:
            self.no(is_book, {"t": [bad]}, {"t": [(1,), bad]}, {"u": [(1,)], "t": [bad]})

    def test_a_book_is_a_dict_of_lists(self):
        self.no(is_book, [], (), None, "t", 1, True, [("t", [])], {"t"}, {"t": ()}, {"t": ((1,),)}, {"t": {(1,): 1}})
        self.no(is_book, {"t": None}, {"t": 1}, {"t": {(1,)}}, {"t": "x"})

    def test_things_of_any_kind(self):
        for thing in odd_things():
            self.no(is_book, thing, {"t": thing}, {"t": [thing]}, {"t": [(1,), thing]}, {"t": [(thing,)]})

    def test_what_is_asked_stays(self):
        book = {"t": [(2,), (1,)], "a": []}
        before = copy.deepcopy(book)
        for again in range(2):
            self.assertIs(is_book(book), True)
            self.assertEqual(book, before)
            self.assertEqual(list(book), ["t", "a"])


def filled():
    book = Book(WIDTHS)
    for row in [(3,), (-1,), (20,)]:
        book.put("town", row)
    for row in [(2, 1), (1, 9), (1, -9)]:
        book.put("road", row)
    return book


class TestMakingABook(unittest.TestCase):
    def refused(self, *things):
        for thing in things:
            with self.assertRaises(NoTable):
                Book(thing)

    def test_tables_widths_and_no_rows(self):
        book = Book(WIDTHS)
        self.assertEqual(book.tables(), ["lane", "road", "town"])
        self.assertEqual([book.width(table) for table in ("town", "road", "lane")], [1, 2, 6])
        self.assertEqual(book.plain(), {"lane": [], "road": [], "town": []})
        self.assertEqual(book.size(), 0)

    def test_none_to_twelve_tables(self):
        self.assertEqual(Book([]).tables(), [])
        self.assertEqual(Book([]).plain(), {})
        self.assertEqual(Book([]).size(), 0)
        twelve = [(f"t{k}", 1) for k in range(12)]
        self.assertEqual(len(Book(twelve).tables()), 12)
        self.refused(twelve + [("more", 1)])

    def test_widths_go_from_one_to_six(self):
        for width in range(1, 7):
            self.assertEqual(Book([("t", width)]).width("t"), width)
        self.refused([("t", 0)], [("t", 7)], [("t", -1)], [("t", 10 ** 5000)], [("u", 1), ("t", 7)])

    def test_a_width_is_a_whole_number(self):
        self.refused([("t", True)], [("t", False)], [("t", "1")], [("t", 1.0)], [("t", None)], [("t", [1])])

    def test_no_table_twice(self):
        self.refused([("t", 1), ("t", 1)], [("t", 1), ("u", 2), ("t", 3)])

    def test_a_table_is_a_name(self):
        self.assertEqual(Book([("abcdefghijkl", 1)]).tables(), ["abcdefghijkl"])
        self.refused([("", 1)], [("T", 1)], [("1t", 1)], [("abcdefghijklm", 1)], [("t\n", 1)], [(1, 1)], [(None, 1)])
        self.refused([(["t"], 1)], [({}, 1)], [(("t",), 1)])

    def test_a_list_of_tuples_of_two(self):
        self.refused((), (("t", 1),), {"t": 1}, {}, None, "t", 1, True, [["t", 1]], ["t1"], [("t",)], [("t", 1, 1)])
        self.refused([()], [None], [[]], [{}], [1], ["t", 1], ("t", 1), [{"t": 1}])

    def test_things_of_any_kind(self):
        for thing in odd_things():
            self.refused([thing], [(thing, 1)], [("t", thing)], [("u", 1), thing], [("u", 1), (thing, 1)], thing)

    def test_the_list_stays_and_may_change_afterwards(self):
        widths = list(WIDTHS)
        book = Book(widths)
        self.assertEqual(widths, WIDTHS)
        widths.append(("more", 1))
        widths[0] = ("town", 5)
        self.assertEqual(book.tables(), ["lane", "road", "town"])
        self.assertEqual(book.width("town"), 1)
        self.assertTrue(book.put("town", (1,)))
        widths.clear()
        self.assertEqual(book.plain(), {"lane": [], "road": [], "town": [(1,)]})

    def test_two_books_of_one_list(self):
        widths = [("t", 1)]
        one, other = Book(widths), Book(widths)
        one.put("t", (1,))
        self.assertEqual((one.size(), other.size()), (1, 0))
        self.assertFalse(other.has("t", (1,)))
        other.put("t", (2,))
        self.assertEqual((one.plain(), other.plain()), ({"t": [(1,)]}, {"t": [(2,)]}))
        one.drop("t", (1,))
        self.assertEqual(other.rows("t"), [(2,)])


class TestRowsOfABook(unittest.TestCase):
    def test_put_tells_whether_the_row_is_new(self):
        book = Book(WIDTHS)
        self.assertIs(book.put("road", (1, 2)), True)
        self.assertIs(book.put("road", (1, 2)), False)
        self.assertIs(book.put("road", (2, 1)), True)
        self.assertEqual(book.rows("road"), [(1, 2), (2, 1)])

    def test_drop_tells_whether_the_row_was_there(self):
        book = filled()
        self.assertIs(book.drop("road", (1, 9)), True)
        self.assertIs(book.drop("road", (1, 9)), False)
        self.assertIs(book.drop("lane", WIDE), False)
        self.assertEqual(book.rows("road"), [(1, -9), (2, 1)])
        self.assertIs(book.put("road", (1, 9)), True)
        self.assertEqual(book.rows("road"), [(1, -9), (1, 9), (2, 1)])

    def test_has(self):
        book = filled()
        self.assertIs(book.has("town", (3,)), True)
        self.assertIs(book.has("town", (4,)), False)
        self.assertIs(book.has("road", (1, 2)), False)
        self.assertIs(book.has("lane", WIDE), False)
        book.drop("town", (3,))
        self.assertIs(book.has("town", (3,)), False)

    def test_a_row_stands_in_its_table_alone(self):
        book = Book([("a", 1), ("b", 1)])
        book.put("a", (1,))
        self.assertFalse(book.has("b", (1,)))
        self.assertFalse(book.drop("b", (1,)))
        self.assertTrue(book.put("b", (1,)))
        self.assertEqual(book.size(), 2)

    def test_rows_come_sorted(self):
        book = filled()
        self.assertEqual(book.rows("town"), [(-1,), (3,), (20,)])
        self.assertEqual(book.rows("road"), [(1, -9), (1, 9), (2, 1)])
        self.assertEqual(book.rows("lane"), [])

    def test_tables_come_sorted(self):
        book = Book([("b", 1), ("a10", 1), ("c", 1), ("a", 1), ("a2", 1)])
        self.assertEqual(book.tables(), ["a", "a10", "a2", "b", "c"])

    def test_size_counts_all_tables(self):
        book = filled()
        self.assertEqual(book.size(), 6)
        book.put("town", (3,))
        self.assertEqual(book.size(), 6)
        book.put("lane", WIDE)
        self.assertEqual(book.size(), 7)
        book.drop("town", (3,))
        self.assertEqual(book.size(), 6)

    def test_plain_has_all_tables_rows_sorted(self):
        plain = filled().plain()
        self.assertEqual(plain, {"town": [(-1,), (3,), (20,)], "road": [(1, -9), (1, 9), (2, 1)], "lane": []})
        self.assertIs(type(plain), dict)
        self.assertIs(is_book(plain), True)

    def test_values_of_seventy_figures(self):
        book = Book([("t", 2)])
        self.assertTrue(book.put("t", (SEVENTY, -SEVENTY)))
        self.assertTrue(book.has("t", (SEVENTY, -SEVENTY)))
        with self.assertRaises(NoRow):
            book.put("t", (SEVENTY + 1, 0))

    def test_kinds_of_what_is_told(self):
        book = filled()
        for told in [book.rows("town"), book.tables()]:
            self.assertIs(type(told), list)
        for told in [book.width("town"), book.size()]:
            self.assertIs(type(told), int)

    def test_asked_again_the_same(self):
        book = filled()
        for again in range(2):
            self.assertEqual(book.rows("town"), [(-1,), (3,), (20,)])
            self.assertEqual(book.tables(), ["lane", "road", "town"])
            self.assertEqual(book.plain(), filled().plain())
            self.assertEqual(list(book.plain()), list(filled().plain()))


class TestRefusals(unittest.TestCase):
    def refused(self, error, ask, *things):
        """Refused by this class, with nothing changed in the book behind the method ask."""
        before = ask.__self__.plain()
        with self.assertRaises(AskError) as taken:
            ask(*things)
        self.assertIs(type(taken.exception), error)
        self.assertEqual(ask.__self__.plain(), before)
        self.assertEqual(ask.__self__.tables(), sorted(before))

    def wanting_rows(self, book):
        return [book.put, book.drop, book.has]

    def test_no_such_table(self):
        book = filled()
        for table in odd_things() + ["more", "Town", "town ", ("town",), ["town"], {"town": 1}, 1]:
            for ask in [book.rows, book.width]:
                self.refused(NoTable, ask, table)
            for ask in self.wanting_rows(book):
                self.refused(NoTable, ask, table, (1,))

    def test_no_such_row(self):
        book = filled()
        for ask in self.wanting_rows(book):
            for row in odd_things() + [[3], 3, "3", {3: 3}, {3}, (3, 3), (), WIDE]:
                self.refused(NoRow, ask, "town", row)
            for thing in odd_things():
                self.refused(NoRow, ask, "road", (1, thing))
                self.refused(NoRow, ask, "road", (thing, 1))
            self.refused(NoRow, ask, "road", (1,))
            self.refused(NoRow, ask, "road", [2, 1])
            self.refused(NoRow, ask, "road", (1, 2, 3))
            self.refused(NoRow, ask, "lane", WIDE[:5])
            self.refused(NoRow, ask, "lane", WIDE + (7,))

    def test_a_truth_in_the_place_of_a_number_that_stands_there(self):
        book = Book([("t", 2)])
        book.put("t", (1, 0))
        for ask in self.wanting_rows(book):
            for row in [(True, 0), (1, False), (True, False), (1.0, 0)]:
                self.refused(NoRow, ask, "t", row)
        self.assertEqual(repr(book.rows("t")), "[(1, 0)]")

    def test_the_table_goes_ahead_of_the_row(self):
        book = filled()
        for ask in self.wanting_rows(book):
            self.refused(NoTable, ask, "more", None)
            self.refused(NoTable, ask, ["town"], [3])
            self.refused(NoTable, ask, None, (1, 2, 3, 4, 5, 6, 7))

    def test_sixty_rows_and_no_more(self):
        book = Book([("t", 1), ("u", 1)])
        for k in range(60):
            self.assertIs(book.put("t", (k,)), True)
        self.refused(Full, book.put, "t", (60,))
        self.refused(Full, book.put, "t", (-1,))
        self.assertEqual(book.rows("t"), [(k,) for k in range(60)])
        self.assertEqual(book.size(), 60)

    def test_a_full_table_and_what_is_not_refused(self):
        book = Book([("t", 1), ("u", 1)])
        for k in range(60):
            book.put("t", (k,))
        self.assertIs(book.put("t", (7,)), False)
        self.assertIs(book.has("t", (60,)), False)
        self.assertIs(book.drop("t", (60,)), False)
        self.assertIs(book.put("u", (60,)), True)
        self.assertIs(book.drop("t", (7,)), True)
        self.assertIs(book.put("t", (60,)), True)
        self.refused(Full, book.put, "t", (7,))
        self.assertEqual(len(book.rows("t")), 60)

    def test_table_and_row_go_ahead_of_full(self):
        book = Book([("t", 1)])
        for k in range(60):
            book.put("t", (k,))
        self.refused(NoTable, book.put, "u", (60,))
        self.refused(NoTable, book.put, [], None)
        for row in [(60, 60), [60], (True,), None, (), {}, (SEVENTY + 1,)]:
            self.refused(NoRow, book.put, "t", row)

    def test_an_empty_book_has_no_table(self):
        book = Book([])
        self.refused(NoTable, book.put, "t", (1,))
        self.refused(NoTable, book.rows, "t")


class TestWhatIsToldIsTheAskersOwn(unittest.TestCase):
    def test_what_is_done_to_it_changes_nothing(self):
        book = filled()
        book.rows("town").append((99,))
        book.rows("road").clear()
        book.tables().clear()
        plain = book.plain()
        plain["town"].clear()
        plain["more"] = [(1,)]
        plain["lane"].append(WIDE)
        plain.pop("road")
        self.assertEqual(book.plain(), filled().plain())
        self.assertEqual(book.tables(), ["lane", "road", "town"])
        self.assertEqual(book.size(), 6)

    def test_what_is_done_later_changes_it_not(self):
        book = filled()
        rows, tables, plain = book.rows("town"), book.tables(), book.plain()
        book.put("town", (4,))
        book.drop("town", (3,))
        book.put("lane", WIDE)
        book.drop("road", (2, 1))
        self.assertEqual(rows, [(-1,), (3,), (20,)])
        self.assertEqual(tables, ["lane", "road", "town"])
        self.assertEqual(plain, filled().plain())


if __name__ == "__main__":
    unittest.main()
