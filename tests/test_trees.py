import itertools
import unittest

from things import FAR, Refusing, line, thrown_cases, thrown_rings

from askwithin.trees import ears, is_tree, ring, shared

CHAIN = (line("r", "x", "y"), line("r", "y", "z"), line("r", "z", "w"), line("r", "w", "v"))
STAR = (line("r", "x", "a"), line("r", "b", "x"), line("r", "x", "c"), line("s", "x"))
RING = (line("r", "x", "y"), line("r", "y", "z"), line("r", "z", "x"))


def around(many):
    names = [f"x{k}" for k in range(many)]
    return tuple(line("r", names[k], names[(k + 1) % many]) for k in range(many))


def tree_ties(lines):
    """All choices of as many ties as a tree has, between two lines each, none of them twice."""
    return itertools.combinations(itertools.combinations(range(len(lines)), 2), max(0, len(lines) - 1))


def thrown_lines():
    told = {lines for book, lines in list(thrown_cases(300)) + list(thrown_rings(200))}
    return sorted(told, key=repr)


def words_of_point_12(lines):
    """Ears and rest, as the document's words go, by sets of names."""
    names = [{term for term in terms if isinstance(term, str)} for table, terms in lines]
    left, taken = list(range(len(lines))), []
    while len(left) >= 2:
        found = [
            (k, j) for k in left for j in left
            if j != k and all(names[k] & names[i] <= names[j] for i in left if i != k)
        ]
        if not found:
            break
        taken.append(found[0])
        left = [k for k in left if k != found[0][0]]
    return taken, left


class TestShared(Refusing):
    def test_a_name_of_the_line_alone(self):
        self.assertEqual(shared((line("r", "x", "y"),), 0), [])
        self.assertEqual(shared((line("r", "x", "y"), line("s", "z")), 0), [])
        self.assertEqual(shared((line("r", "x", "x"), line("s", "z")), 0), [])

    def test_a_name_in_another_line(self):
        lines = (line("r", "x", "y"), line("s", "y"), line("r", "z", "x"))
        self.assertEqual([shared(lines, k) for k in range(3)], [["x", "y"], ["y"], ["x"]])

    def test_each_once(self):
        lines = (line("t", "y", "x", "y", "x"), line("r", "x", "y"), line("r", "y", "y"))
        self.assertEqual([shared(lines, k) for k in range(3)], [["y", "x"], ["x", "y"], ["y"]])

    def test_in_the_order_of_the_line(self):
        lines = (line("r", "a", "b"), line("u", "z", "c", 1, "b", "a", "c"), line("t", "c", "b", "a"))
        self.assertEqual(shared(lines, 1), ["c", "b", "a"])
        self.assertEqual(shared(lines, 2), ["c", "b", "a"])
        self.assertEqual(shared(lines, 0), ["a", "b"])

    def test_alike_lines_share_all_their_names(self):
        self.assertEqual(shared((line("r", "x", "y"),) * 2, 1), ["x", "y"])

    def test_numbers_and_tables_are_no_names(self):
        lines = (line("x", 3, FAR, "y"), line("y", 3, FAR), line("x", "x", 3, 3))
        self.assertEqual([shared(lines, k) for k in range(3)], [[], [], []])

    def test_what_is_told_is_the_askers_own(self):
        told = self.unchanged(shared, RING, 0)
        self.assertIs(type(told), list)
        told.clear()
        self.assertEqual(shared(RING, 0), ["x", "y"])


class TestEars(Refusing):
    def told(self, lines, taken, rest):
        self.assertEqual(self.unchanged(ears, lines), (taken, rest))
        self.assertEqual(self.unchanged(ring, lines), rest if len(rest) > 1 else [])

    def test_no_line_and_one_line(self):
        self.told((), [], [])
        self.told((line("r", "x", "y"),), [], [0])
        self.told((line("r", 1, 2),), [], [0])

    def test_two_lines(self):
        self.told((line("r", "x", "y"), line("r", "y", "z")), [(0, 1)], [1])
        self.told((line("s", "x"), line("s", "y")), [(0, 1)], [1])
        self.told((line("s", 1), line("s", 1)), [(0, 1)], [1])
        self.told((line("r", "x", "y"), line("r", "y", "x")), [(0, 1)], [1])

    def test_chains(self):
        self.told(CHAIN, [(0, 1), (1, 2), (2, 3)], [3])
        self.told((CHAIN[1], CHAIN[0], CHAIN[2]), [(1, 0), (0, 2)], [2])
        self.told((CHAIN[1], CHAIN[3], CHAIN[0], CHAIN[2]), [(1, 3), (2, 0), (0, 3)], [3])

    def test_stars(self):
        self.told(STAR, [(0, 1), (1, 2), (2, 3)], [3])
        middle = line("t", "x", "y", "z")
        self.told((middle, line("s", "x"), line("s", "y"), line("s", "z")), [(1, 0), (2, 0), (0, 3)], [3])

    def test_the_first_parent_each_time(self):
        wide = line("t", "x", "y", "z")
        self.told((line("s", "x"), wide, line("r", "x", "y"), line("r", "z", "a")), [(0, 1), (2, 1), (1, 3)], [3])
        self.told((wide, line("s", "y"), line("r", "y", "x")), [(0, 2), (1, 2)], [2])
        self.told((line("r", "y", "x"), line("s", "y"), wide), [(0, 2), (1, 2)], [2])
        self.told((line("s", "a"), wide, line("s", "a"), line("s", "a")), [(0, 2), (1, 2), (2, 3)], [3])

    def test_the_first_line_left_each_time(self):
        # Line 0 is no ear ahead of line 1, but the first line again behind it.
        lines = (line("r", "x", "y"), line("r", "y", "z"), line("r", "x", "w"))
        self.told(lines, [(1, 0), (0, 2)], [2])
        # Line 1 is taken off ahead of line 2, though both may be.
        self.told((line("r", "x", "y"), line("s", "x"), line("s", "y")), [(1, 0), (0, 2)], [2])

    def test_lines_without_a_common_name(self):
        self.told((line("s", "x"), line("s", "y"), line("s", "z")), [(0, 1), (1, 2)], [2])
        self.told((line("s", 1), line("s", "y"), line("s", 3)), [(0, 1), (1, 2)], [2])
        # A line that shares a name with none hangs on the first other one left, whatever that is.
        self.told(RING + (line("s", "v"),), [(3, 0)], [0, 1, 2])

    def test_rings(self):
        for many in (3, 4, 5):
            self.told(around(many), [], list(range(many)))
            self.told(around(many)[::-1], [], list(range(many)))
        self.told((line("t", "x", "y", 1), line("t", "z", "y", "z"), line("t", 2, "x", "z")), [], [0, 1, 2])

    def test_a_ring_with_ears(self):
        self.told((line("r", "a", "x"),) + RING, [(0, 1)], [1, 2, 3])
        self.told(RING[:1] + (line("s", "y"),) + RING[1:], [(1, 0)], [0, 2, 3])
        self.told((line("r", "a", "b"), RING[0], line("r", "z", "b"), RING[1], RING[2]), [(0, 2), (2, 3)], [1, 3, 4])

    def test_a_ring_that_a_line_covers(self):
        self.told(RING + (line("t", "z", "y", "x"),), [(0, 3), (1, 3), (2, 3)], [3])
        self.assertEqual(ring(around(4) + (line("t", "x0", "x1", "x2"),)), [2, 3, 4])
        self.told(around(4) + (line("r", "x0", "x2"),), [], [0, 1, 2, 3, 4])

    def test_two_lines_of_the_same_ends_are_no_ring(self):
        self.told((line("r", "x", "y"), line("r", "y", "x"), line("q", "x", "y")), [(0, 1), (1, 2)], [2])

    def test_alike_lines(self):
        self.told((line("s", "x"),) * 3, [(0, 1), (1, 2)], [2])
        self.told(RING + RING[:2], [(0, 3), (1, 4)], [2, 3, 4])

    def test_a_line_whose_names_all_stand_in_another_one(self):
        self.told((line("t", "x", "y", "z"), line("r", "z", "x"), line("r", "w", "z")), [(0, 1), (1, 2)], [2])
        self.told((line("t", "x", "y", "z"), line("r", "z", "x"), line("r", "w", "y")), [(1, 0), (0, 2)], [2])
        self.told((line("r", "w", "z"), line("r", "z", "x"), line("t", "x", "y", "z")), [(0, 1), (1, 2)], [2])

    def test_a_name_that_stands_in_all_of_them(self):
        lines = tuple(line("t", "a", terms[0], terms[1]) for table, terms in RING)
        self.told(lines, [], [0, 1, 2])

    def test_as_the_words_go(self):
        for lines in thrown_lines():
            taken, rest = words_of_point_12(lines)
            self.assertEqual(ears(lines), (taken, rest), lines)
            self.assertEqual(ring(lines), rest if len(rest) >= 3 else [], lines)
            self.assertNotEqual(len(rest), 2, lines)

    def test_kinds_and_what_is_told_is_the_askers_own(self):
        told = ears(CHAIN)
        self.assertEqual([type(told), type(told[0]), type(told[1])], [tuple, list, list])
        self.assertEqual({type(ear) for ear in told[0]}, {tuple})
        told[0].clear()
        told[1].append(7)
        self.assertEqual(ears(CHAIN), ([(0, 1), (1, 2), (2, 3)], [3]))
        for lines in [RING, CHAIN, ()]:
            told = ring(lines)
            self.assertIs(type(told), list)
            told.append(9)
            self.assertNotIn(9, ring(lines))


class TestIsTree(Refusing):
    def yes(self, lines, *lists):
        for ties in lists:
            self.assertIs(self.unchanged(is_tree, lines, ties), True, ties)

    def no(self, lines, *lists):
        for ties in lists:
            self.assertIs(self.unchanged(is_tree, lines, ties), False, ties)

    def test_no_lines_and_no_ties(self):
        self.yes((), [])

    def test_one_line(self):
        self.yes(CHAIN[:1], [])
        self.no(CHAIN[:1], [(0, 0)])

    def test_two_lines(self):
        for lines in [CHAIN[:2], (line("s", "x"), line("s", "y")), (line("s", 1),) * 2]:
            self.yes(lines, [(0, 1)], [(1, 0)])
            self.no(lines, [], [(0, 0)], [(1, 1)], [(0, 1), (0, 1)], [(0, 1), (1, 0)], [(0, 1), (1, 1)])

    def test_too_few_and_too_many_ties(self):
        self.yes(CHAIN[:3], [(0, 1), (1, 2)])
        self.no(CHAIN[:3], [], [(0, 1)], [(1, 2)], [(0, 1), (1, 2), (0, 2)], [(0, 1), (1, 2), (1, 2)])
        self.no(CHAIN[:3], [(0, 1), (1, 2), (2, 2)])
        self.no((line("s", 1),) * 3, [(0, 1)], [(0, 1), (1, 2), (0, 2)])

    def test_a_tie_of_a_line_with_itself_and_a_tie_twice(self):
        lines = (line("s", 1),) * 3
        self.yes(lines, [(0, 1), (1, 2)], [(0, 2), (1, 2)], [(0, 1), (0, 2)])
        self.no(lines, [(0, 1), (2, 2)], [(0, 1), (1, 1)], [(1, 2), (1, 2)], [(1, 2), (2, 1)], [(0, 0), (1, 2)])

    def test_either_way_round_and_in_any_order(self):
        for ties in itertools.permutations([(0, 1), (1, 2), (2, 3)]):
            for turned in itertools.product([1, -1], repeat=3):
                self.yes(CHAIN, [tie[::turn] for tie, turn in zip(ties, turned)])

    def test_a_circle_beside_a_line_that_hangs_on_nothing(self):
        lines = (line("s", 1),) * 4
        self.no(lines, [(0, 1), (1, 2), (2, 0)], [(1, 2), (2, 3), (3, 1)], [(0, 1), (1, 0), (2, 3)])
        self.no(RING + (line("s", "v"),), [(0, 1), (1, 2), (2, 0)])

    def test_a_name_that_is_not_held_together(self):
        self.no(CHAIN[:3], [(0, 2), (2, 1)], [(0, 1), (0, 2)], [(1, 0), (2, 0)])
        self.yes((line("r", "x", "y"), line("r", "y", "x"), line("s", 1)), [(0, 1), (1, 2)], [(0, 1), (0, 2)])
        self.no((line("r", "x", "y"), line("r", "y", "x"), line("s", 1)), [(0, 2), (2, 1)])
        self.no(CHAIN, [(0, 1), (1, 3), (3, 2)])

    def test_a_name_held_together_by_way_of_one_that_has_it(self):
        lines = (line("s", "x"), line("r", "x", "y"), line("s", "x"), line("s", "y"))
        self.yes(lines, [(0, 1), (1, 2), (1, 3)], [(0, 2), (2, 1), (1, 3)])
        self.no(lines, [(0, 3), (3, 1), (1, 2)], [(0, 1), (1, 2), (2, 3)])

    def test_a_name_that_stands_twice_in_one_line(self):
        self.yes((line("r", "x", "x"), line("s", "y"), line("s", "z")), [(0, 1), (1, 2)])

    def test_numbers_and_tables_need_not_be_held_together(self):
        self.yes((line("s", 1), line("q", "x"), line("s", 1)), [(0, 1), (1, 2)])
        self.yes((line("x", "s"), line("q", "y"), line("s", "x")), [(0, 1), (1, 2)])

    def test_the_ears_make_a_tree_where_there_is_no_ring(self):
        for lines in [CHAIN, STAR, CHAIN[::-1], STAR[::-1], RING + (line("t", "x", "y", "z"),)] + thrown_lines():
            if ring(lines) == []:
                self.yes(lines, ears(lines)[0])

    def test_over_a_ring_no_ties_do(self):
        rings = [lines for lines in thrown_lines() if ring(lines) != [] and len(lines) <= 5]
        self.assertGreater(len(rings), 50)
        for lines in [around(3), around(4), around(5)] + rings:
            for ties in tree_ties(lines):
                self.assertIs(is_tree(lines, list(ties)), False, (lines, ties))
            self.assertIs(is_tree(lines, ears(lines)[0]), False, lines)

    def test_a_truth_each_time(self):
        for ties in tree_ties(STAR):
            self.assertIn(is_tree(STAR, list(ties)), [True, False])
            self.assertIs(type(is_tree(STAR, list(ties))), bool)


if __name__ == "__main__":
    unittest.main()
