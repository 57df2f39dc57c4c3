import unittest

from things import FAR, Asking, Dice, Refusing, Sulky, deep, loop, odd_things, rows

from askwithin.rules import broken, is_rule, keeps

KEY = ("key", "road", (0, 2))
POINTS = ("points", "road", (0, 2), "town", (1, 0), 3)


def with_part(rule, place, thing):
    return rule[:place] + (thing,) + rule[place + 1:]


def tried_broken(book, rules):
    """What the document says of broken rules, by trying each row and each two of them."""
    found = []
    for number, rule in enumerate(rules):
        own = book.get(rule[1], [])
        if rule[0] == "key":
            for row in own:
                for other in own:
                    if row < other and all(row[column] == other[column] for column in rule[2]):
                        found.append((number, row, other))
        else:
            for row in own:
                pairs = list(zip(rule[2], rule[4], strict=True))
                if not any(all(row[k] == other[j] for k, j in pairs) for other in book.get(rule[3], [])):
                    found.append((number, row))
    return sorted(found)


class TestIsRule(Asking):
    def test_keys(self):
        self.yes(
            is_rule, KEY, ("key", "a", (0,)), ("key", "a", (5,)), ("key", "key", (1, 3)), ("key", "points", (0, 1)),
            ("key", "a23456789012", (0, 1, 2, 3, 4, 5)), ("key", "t", (0, 1, 2, 4, 5)),
        )

    def test_pointings(self):
        self.yes(
            is_rule, POINTS, ("points", "a", (0,), "b", (0,), 1), ("points", "a", (5,), "b", (5,), 6),
            ("points", "a", (5, 0), "b", (0, 1), 2), ("points", "a", (5, 4, 3, 2, 1, 0), "b", (0, 2, 1, 4, 3, 5), 6),
            ("points", "to", (3,), "of", (0,), 1), ("points", "points", (3,), "key", (0,), 6),
        )

    def test_a_pointing_from_a_table_to_itself(self):
        self.yes(is_rule, ("points", "a", (0,), "a", (1,), 2), ("points", "a", (1, 0), "a", (0, 1), 2))
        self.yes(is_rule, ("points", "a", (5,), "a", (5,), 6), ("points", "a", (0,), "a", (0,), 1))
        self.no(is_rule, ("points", "a", (1,), "a", (0,), 1), ("points", "a", (0, 2), "a", (0, 1), 2))
        self.no(is_rule, ("points", "a", (5,), "a", (0,), 5), ("points", "a", (3, 0), "a", (0, 1), 3))
        self.yes(is_rule, ("points", "a", (1,), "b", (0,), 1), ("points", "a", (0, 2), "b", (0, 1), 2))

    def test_lists_in_the_place_of_tuples(self):
        self.no(is_rule, list(KEY), list(POINTS), with_part(KEY, 2, [0, 2]))
        self.no(is_rule, with_part(POINTS, 2, [0, 2]), with_part(POINTS, 4, [1, 0]))
        self.no(is_rule, with_part(KEY, 2, {0: 1, 2: 1}), with_part(KEY, 2, {0, 2}), with_part(KEY, 2, range(2)))
        self.no(is_rule, with_part(KEY, 2, "02"), with_part(KEY, 2, 0), with_part(POINTS, 4, 0))

    def test_other_words(self):
        for word in ["keys", "Key", "key ", "", "point", "POINTS", "same", "put", None, 0, b"key", ("key",), ["key"]]:
            self.no(is_rule, with_part(KEY, 0, word), with_part(POINTS, 0, word))
        self.no(is_rule, with_part(KEY, 0, "points"), with_part(POINTS, 0, "key"))

    def test_a_part_more_and_fewer(self):
        for rule in [KEY, POINTS]:
            for length in range(len(rule)):
                self.no(is_rule, rule[:length], rule[len(rule) - length:])
            self.no(is_rule, rule + (3,), rule + ((0,),), rule + rule, rule + (None,), (rule,), (rule, rule))
        self.no(is_rule, KEY + ("town", (1, 0), 3, 3), KEY + ("town", (1, 0)))

    def test_tables_that_are_no_names(self):
        for thing in ["", "A", "0", "1a", "a b", "a-", "a\n", "abcdefghijklm", "\u00e9", 7, None, True, ("a",), ["a"]]:
            self.no(is_rule, with_part(KEY, 1, thing), with_part(POINTS, 1, thing), with_part(POINTS, 3, thing))

    def test_columns_that_are_no_whole_numbers(self):
        for thing in [True, False, 0.0, 1.0, "0", None, (0,), [0], 10 ** 5000, -(10 ** 5000), Sulky(), loop(), deep()]:
            self.no(is_rule, with_part(KEY, 2, (thing,)), with_part(KEY, 2, (0, thing)), with_part(KEY, 2, (thing, 5)))
            for place in (2, 4):
                self.no(is_rule, with_part(POINTS, place, (thing, 2)), with_part(POINTS, place, (2, thing)))
        self.no(is_rule, ("key", "a", (False, True)), ("key", "a", (0, True)))

    def test_columns_from_0_to_5(self):
        for thing in [-1, 6, 7, -6, FAR, -FAR]:
            self.no(is_rule, with_part(KEY, 2, (thing,)), with_part(KEY, 2, (-2, thing)), with_part(KEY, 2, (0, thing)))
            self.no(is_rule, with_part(POINTS, 2, (thing, 2)), with_part(POINTS, 2, (2, thing)))
            self.no(is_rule, with_part(POINTS, 4, (thing, 2)), with_part(POINTS, 4, (2, thing)))
        self.no(is_rule, ("points", "a", (0,), "b", (6,), 6), ("points", "a", (0,), "b", (6,), 7))

    def test_columns_of_a_key_that_fall_or_stand_twice(self):
        for columns in [(2, 0), (0, 0), (0, 1, 1), (0, 2, 1), (5, 4, 3, 2, 1, 0), (1, 1, 2)]:
            self.no(is_rule, with_part(KEY, 2, columns))

    def test_columns_of_a_pointing_that_stand_twice(self):
        self.no(is_rule, with_part(POINTS, 2, (1, 1)), with_part(POINTS, 4, (1, 1)), with_part(POINTS, 4, (0, 0)))
        self.no(is_rule, ("points", "a", (0, 1, 0), "b", (0, 1, 2), 3), ("points", "a", (0, 1, 2), "b", (2, 1, 2), 3))
        self.yes(is_rule, with_part(POINTS, 2, (2, 0)), with_part(POINTS, 4, (0, 1)))

    def test_none_and_seven_columns(self):
        self.no(is_rule, with_part(KEY, 2, ()), with_part(KEY, 2, (0, 1, 2, 3, 4, 5, 6)))
        self.no(is_rule, with_part(KEY, 2, (0, 1, 2, 3, 4, 5, 5)))
        self.no(is_rule, ("points", "a", (), "b", (), 3), ("points", "a", (0,), "b", (), 3))
        seven = (0, 1, 2, 3, 4, 5, 6)
        self.no(is_rule, ("points", "a", seven, "b", seven, 6), ("points", "a", seven, "b", seven, 7))
        self.no(is_rule, ("points", "a", (0, 1, 2, 3, 4, 5, 0), "b", (0, 1, 2, 3, 4, 5, 0), 6))

    def test_unlike_counts(self):
        self.no(is_rule, with_part(POINTS, 2, (0,)), with_part(POINTS, 2, (0, 1, 2)))
        self.no(is_rule, with_part(POINTS, 4, (0,)), with_part(POINTS, 4, (0, 1, 2)), with_part(POINTS, 4, ()))

    def test_widths(self):
        self.yes(is_rule, with_part(POINTS, 5, 2), with_part(POINTS, 5, 6), ("points", "a", (4,), "b", (0,), 1))
        for thing in [0, -1, 7, 8, FAR, True, False, 3.0, "3", None, (3,), 10 ** 5000]:
            self.no(is_rule, with_part(POINTS, 5, thing))
        for thing in [0, True, 7, -1]:
            self.no(is_rule, ("points", "a", (0,), "b", (0,), thing))

    def test_others_not_below_the_width(self):
        self.no(is_rule, with_part(POINTS, 5, 1), ("points", "a", (0,), "b", (1,), 1))
        self.no(is_rule, ("points", "a", (0, 1), "b", (3, 0), 3), ("points", "a", (0, 1), "b", (0, 3), 3))
        self.no(is_rule, ("points", "a", (0,), "b", (5,), 5))

    def test_whatever_is_handed_in(self):
        self.no(is_rule, *odd_things())
        for thing in odd_things():
            for rule in [KEY, POINTS]:
                self.no(is_rule, rule + (thing,), *[with_part(rule, place, thing) for place in range(len(rule))])
            self.no(is_rule, (thing,), (thing, thing, thing), (thing,) * 6, [thing] * 3)


class TestBroken(Refusing):
    def test_a_key_with_three_rows(self):
        book = {"t": [(1, 9, 5), (1, 2, 5), (2, 2, 5), (1, 4, 5), (1, 4, 6)]}
        self.assertEqual(broken(book, [("key", "t", (0, 2))]), [
            (0, (1, 2, 5), (1, 4, 5)), (0, (1, 2, 5), (1, 9, 5)), (0, (1, 4, 5), (1, 9, 5)),
        ])
        self.assertEqual(broken(book, [("key", "t", (0, 1))]), [(0, (1, 4, 5), (1, 4, 6))])
        self.assertEqual(broken(book, [("key", "t", (0, 1, 2))]), [])

    def test_a_key_with_all_columns_is_kept(self):
        self.assertEqual(broken({"t": rows(60)}, [("key", "t", (0,))]), [])
        self.assertEqual(broken({"t": rows(60, 6)}, [("key", "t", (0, 1, 2, 3, 4, 5))]), [])

    def test_rows_below_0_and_of_seventy_figures(self):
        book = {"t": [(10, 0), (9, 0), (-FAR, 0), (FAR, 0), (FAR, 1), (-10, 0)]}
        told = [(-FAR, 0), (-10, 0), (9, 0), (10, 0), (FAR, 0)]
        pairs = [(0, row, other) for k, row in enumerate(told) for other in told[k + 1:]]
        self.assertEqual(broken(book, [("key", "t", (1,))]), pairs)
        self.assertEqual(broken(book, [("key", "t", (0,))]), [(0, (FAR, 0), (FAR, 1))])
        self.assertEqual(broken(book, [("points", "t", (0,), "u", (0,), 1)]), [(0, row) for row in told + [(FAR, 1)]])

    def test_a_pointing(self):
        book = {"road": [(3, 1), (1, 2), (2, 3), (5, 2)], "town": [(1,), (2,), (9,)]}
        self.assertEqual(broken(book, [("points", "road", (0,), "town", (0,), 1)]), [(0, (3, 1)), (0, (5, 2))])
        self.assertEqual(broken(book, [("points", "road", (1,), "town", (0,), 1)]), [(0, (2, 3))])
        self.assertEqual(broken(book, [("points", "town", (0,), "road", (1,), 2)]), [(0, (9,))])

    def test_a_pointing_from_a_table_to_itself(self):
        book = {"t": [(1, 2), (2, 3), (3, 1), (4, 4), (5, 6)]}
        self.assertEqual(broken(book, [("points", "t", (1,), "t", (0,), 2)]), [(0, (5, 6))])
        self.assertEqual(broken(book, [("points", "t", (0,), "t", (1,), 2)]), [(0, (5, 6))])
        told = [(0, (1, 2)), (0, (2, 3)), (0, (3, 1)), (0, (5, 6))]
        self.assertEqual(broken(book, [("points", "t", (0, 1), "t", (1, 0), 2)]), told)
        self.assertEqual(broken(book, [("points", "t", (0, 1), "t", (0, 1), 2)]), [])

    def test_columns_in_another_order_than_rising(self):
        book = {"a": [(1, 2, 3), (4, 5, 6)], "b": [(3, 0, 1), (6, 0, 5), (4, 0, 6)]}
        self.assertEqual(broken(book, [("points", "a", (2, 0), "b", (0, 2), 3)]), [(0, (4, 5, 6))])
        self.assertEqual(broken(book, [("points", "a", (0, 2), "b", (0, 2), 3)]), [(0, (1, 2, 3))])
        self.assertEqual(broken(book, [("points", "a", (0, 2), "b", (2, 0), 3)]), [(0, (4, 5, 6))])
        self.assertEqual(broken(book, [("points", "a", (2, 1), "b", (0, 2), 3)]), [(0, (1, 2, 3))])

    def test_a_table_that_the_book_does_not_have(self):
        book = {"t": [(2,), (1,)], "bare": []}
        self.assertEqual(broken(book, [("points", "t", (0,), "other", (2,), 3)]), [(0, (1,)), (0, (2,))])
        self.assertEqual(broken(book, [("points", "t", (0,), "bare", (0,), 1)]), [(0, (1,)), (0, (2,))])
        for table in ["other", "bare"]:
            self.assertEqual(broken(book, [("points", table, (0,), "t", (0,), 1), ("key", table, (3,))]), [])

    def test_several_rules_alike_ones_too(self):
        book = {"t": [(1, 2), (1, 1), (0, 2)], "u": [(2,)]}
        key, points = ("key", "t", (0,)), ("points", "t", (1,), "u", (0,), 1)
        self.assertEqual(broken(book, [points, key, ("key", "t", (1,)), key, points]), [
            (0, (1, 1)), (1, (1, 1), (1, 2)), (2, (0, 2), (1, 2)), (3, (1, 1), (1, 2)), (4, (1, 1)),
        ])
        self.assertEqual(broken(book, [("key", "u", (0,)), points]), [(1, (1, 1))])

    def test_no_rules_and_no_rows(self):
        self.assertEqual(broken({"t": [(1, 1), (1, 2)]}, []), [])
        self.assertEqual(broken({}, [KEY, POINTS]), [])
        self.assertEqual(broken({"road": [], "town": []}, [KEY, POINTS]), [])
        self.assertEqual(broken({}, []), [])

    def test_as_when_tried(self):
        dice = Dice(5)
        many = {True: 0, False: 0}
        for k in range(600):
            book = dice.book(dice.pick([2, 4, 8]), dice.pick([[0, 1], [0, 1, 2], [-FAR, -1, 10, FAR]]))
            handed = dice.rules(dice.pick([1, 3, 6]))
            self.assertEqual(all(is_rule(rule) for rule in handed), True)
            told = tried_broken(book, handed)
            self.assertEqual(broken(book, handed), told, (book, handed))
            self.assertIs(keeps(book, handed), told == [])
            many[told == []] += 1
        self.assertGreater(min(many.values()), 100)

    def test_what_is_told_is_the_askers_own(self):
        book = {"t": [(1, 2), (1, 1), (0, 2)], "u": [(2,)]}
        handed = [("key", "t", (0,)), ("points", "t", (1,), "u", (0,), 1)]
        told = self.unchanged(broken, book, handed)
        self.assertIs(type(told), list)
        told.clear()
        self.assertEqual(broken(book, handed), [(0, (1, 1), (1, 2)), (1, (1, 1))])


class TestKeeps(Refusing):
    def test_kept(self):
        book = {"t": [(1, 2), (2, 1)]}
        for handed in [[], [("key", "t", (0,))], [("key", "t", (1,)), ("points", "t", (0, 1), "t", (1, 0), 2)]]:
            self.assertIs(self.unchanged(keeps, book, handed), True)
            self.assertIs(self.unchanged(keeps, {}, handed), True)

    def test_not_kept(self):
        book = {"t": [(1, 2), (1, 1)]}
        for handed in [[("key", "t", (0,))], [("key", "t", (1,)), ("points", "t", (0, 1), "t", (1, 0), 2)]]:
            self.assertIs(self.unchanged(keeps, book, handed), False)
        self.assertIs(keeps(book, [("key", "t", (1,)), ("key", "t", (0, 1))]), True)
        self.assertIs(keeps(book, [("points", "t", (0,), "other", (0,), 1)]), False)


if __name__ == "__main__":
    unittest.main()
