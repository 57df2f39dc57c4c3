import copy
import itertools
import unittest

from things import LONG, Dice, Refusing, is_text, line, names_told, thrown_pairs, tried_within

from askwithin.inside import same, within
from askwithin.least import least, needed
from askwithin.rules import is_rule
from askwithin.terms import is_question

KEY = ("key", "t", (0,))
DEEP = ("points", "t", (1,), "t", (0,), 2)
TOWNS = ("points", "road", (1,), "town", (0,), 1)
CLASH = (("x",), (line("t", "x", 1), line("t", "x", 2)))
PATH = (line("road", "x", "y"), line("road", "y", "z"))


def less(lines, k):
    return lines[:k] + lines[k + 1:]


def tried_line(alternative, k, rules):
    """What the document says is told of a line."""
    head, lines = alternative
    left = names_told(less(lines, k))
    for term in head:
        if is_text(term) and term not in left:
            return ("head", term)
    return tried_within([(head, less(lines, k))], [alternative], rules)


def tried_least(question, rules):
    stands = []
    for head, lines in question:
        told = [tried_line((head, lines), k, rules)[0] for k in range(len(lines))]
        while "within" in told:
            lines = less(lines, told.index("within"))
            told = [tried_line((head, lines), k, rules)[0] for k in range(len(lines))]
        stands.append((head, lines))
    for k in reversed(range(len(stands))):
        if tried_within([stands[k]], less(stands, k), rules)[0] == "within":
            stands = less(stands, k)
    return stands


def tried_needed(question, rules):
    told = []
    for k, alternative in enumerate(question):
        lines = [tried_line(alternative, j, rules) for j in range(len(alternative[1]))]
        told.append((tried_within([alternative], less(question, k), rules), lines))
    return told


def renamings(one, other):
    """All ways to give the second's names to the first's, each to one of its own."""
    names = names_told(one[1])
    for others in itertools.permutations(names_told(other[1])):
        if len(others) == len(names):
            yield dict(zip(names, others))


def alike_but_for_names(one, other):
    for put in renamings(one, other):
        lines = [(table, tuple(put.get(term, term) for term in terms)) for table, terms in one[1]]
        if sorted(map(repr, lines)) == sorted(map(repr, other[1])):
            if tuple(put.get(term, term) for term in one[0]) == other[0]:
                return True
    return False


def alike_but_for_names_and_order(one, other):
    if len(one) != len(other):
        return False
    return any(all(alike_but_for_names(*pair) for pair in zip(one, turned)) for turned in itertools.permutations(other))


def renamed(alternative, names):
    head, lines = alternative
    put = [(table, tuple(names.get(term, term) for term in terms)) for table, terms in lines]
    return (tuple(names.get(term, term) for term in head), tuple(put))


def with_a_loose_line(dice, alternative):
    """One line more, a copy with new names for some of its terms: it asks for nothing that its line doesn't ask for."""
    head, lines = alternative
    table, terms = dice.pick(lines)
    loose = (table, tuple(f"w{k}" if dice.throw(2) else term for k, term in enumerate(terms)))
    place = dice.throw(len(lines) + 1)
    return (head, lines[:place] + (loose,) + lines[place:])


def padded(dice, question):
    """A question that asks the same: other names, another order, lines and alternatives that may be left out."""
    told = []
    for alternative in question:
        own = with_a_loose_line(dice, alternative) if 0 < len(alternative[1]) < 5 else alternative
        names = names_told(own[1])
        turned = dice.throw(len(own[1]) + 1)
        own = (own[0], own[1][turned:] + own[1][:turned])
        told.append(renamed(own, dict(zip(names, [f"p{k}" for k in range(len(names))]))))
        # With a number in the place of a name that isn't the head's it answers less.
        rest = [name for name in names_told(alternative[1]) if name not in alternative[0]]
        if len(question) < 3 and rest:
            told.append(renamed(alternative, {rest[0]: dice.pick([3, LONG] + rest)}))
    return told[::dice.pick([1, -1])]


class TestLeast(Refusing):
    def check(self, question, rules, *told):
        self.assertTrue(is_question(question) and all(is_rule(rule) for rule in rules))
        own = self.unchanged(least, question, rules)
        self.assertEqual(own, list(told))
        self.assertIs(type(own), list)
        self.assertIs(is_question(own), True)

    def lines(self, head, lines, rules, *told):
        self.check([(head, lines)], rules, (head, told))

    def test_nothing_to_leave_out(self):
        self.check([], [])
        self.check([], [KEY])
        self.check([((), ())], [], ((), ()))
        self.check([((5, 5), ())], [KEY], ((5, 5), ()))
        self.lines(("x",), PATH, [], *PATH)
        self.lines((), PATH, [], *PATH)

    def test_lines_one_by_one_from_the_first_on(self):
        # Each of these may be left out, and the last one stays.
        lines = tuple(line("road", f"x{k}", f"y{k}") for k in range(5))
        self.lines((), lines, [], lines[4])
        self.lines((), lines[::-1], [], lines[0])
        self.lines(("x2",), lines, [], lines[2])
        self.lines(("x2", "y4"), lines, [], lines[2], lines[4])

    def test_lines_that_go_together(self):
        lines = (line("t", "a", "b"), line("u", "b"), line("t", "c", "d"), line("u", "d"), line("v", "d"))
        self.lines((), lines, [], *lines[2:])
        lines = (line("t", "x", "y"), line("t", "x", "z"), line("u", "y"), line("u", "z"), line("v", "z"))
        self.lines(("x",), lines, [], lines[1], lines[3], lines[4])

    def test_again_from_the_first_after_each(self):
        rules = [("points", "p", (k,), "t", (0,), 2) for k in range(4)] + [("points", "u", (0,), "t", (0,), 2)]
        lines = (line("t", "x", "y"), line("p", "a", "b", "c", "d"), line("p", "e", "e", "e", "e"), line("u", "x"))
        # The puts for both lines of p leave none for u: so it's open of the first line until the second one is gone.
        self.assertEqual(within([((), lines[1:])], [((), lines)], rules), ("open", [0]))
        self.assertEqual(within([((), lines[2:])], [((), lines[:1] + lines[2:])], rules)[0], "within")
        self.lines((), lines, rules, *lines[2:])

    def test_alike_lines(self):
        own = line("road", "x", "y")
        self.lines(("x", "y"), (own, own, own), [], own)
        self.lines(("x",), (own, line("town", "x"), own), [], line("town", "x"), own)

    def test_a_line_whose_name_of_the_head_stands_nowhere_else_stays(self):
        lines = (line("road", "x", "y"), line("road", "x", "z"))
        self.lines(("x",), lines, [], lines[1])
        self.lines(("y",), lines, [], lines[0])
        self.lines(("z",), lines, [], lines[1])
        self.lines(("y", "z"), lines, [], *lines)
        self.lines((3, "y", 3), lines, [], lines[0])

    def test_no_line_may_stay(self):
        # With no lines left it would answer on a book without rows, too.
        self.lines((), (line("road", "x", "y"),), [], line("road", "x", "y"))
        self.lines((7,), (line("road", "x", 7),), [], line("road", "x", 7))

    def test_numbers(self):
        lines = (line("road", "x", "y"), line("road", 3, "z"), line("road", 3, LONG))
        self.lines((), lines, [], lines[2])
        self.lines(("x",), lines, [], lines[0], lines[2])
        self.lines((LONG, -LONG), lines[:2], [], lines[1])

    def test_a_ring_and_its_folding(self):
        square = (line("e", "a", "b"), line("e", "b", "a"), line("e", "c", "b"), line("e", "b", "c"))
        self.lines((), square, [], *square[2:])
        ring = (line("e", "a", "b"), line("e", "b", "c"), line("e", "c", "a"))
        self.lines((), ring, [], *ring)
        self.lines((), ring + (line("e", "d", "d"),), [], line("e", "d", "d"))

    def test_rules_make_a_line_one_that_may_be_left_out(self):
        lines = (line("road", "x", "y"), line("town", "y"))
        self.lines(("x",), lines, [], *lines)
        self.lines(("x",), lines, [TOWNS], lines[0])
        lines = (line("t", "x", "y"), line("t", "x", "z"), line("u", "z"))
        self.lines(("x", "y"), lines, [], *lines)
        lines = (line("t", "x", "y"), line("t", "x", "z"), line("u", "y"), line("u", "z"))
        self.lines(("y", "z"), lines, [KEY], lines[0], lines[1], lines[3])

    def test_rules_under_which_it_is_open(self):
        lines = (line("t", "x", "y"), line("t", "z", "z"))
        self.assertEqual(within([(("x",), lines[:1])], [(("x",), lines)], [DEEP])[0], "open")
        self.lines(("x",), lines, [DEEP], *lines)
        lines = (line("t", "x", "y"), line("t", "y", "z"))
        self.lines(("x",), lines, [], *lines)
        self.lines(("x",), lines, [DEEP], lines[0])
        self.lines((), lines, [DEEP], lines[1])

    def test_alternatives_from_the_last_to_the_first(self):
        road, town = (("x",), (line("road", "x", "y"),)), (("x",), (line("town", "x"),))
        # Of those that ask the same the first stays, as it stands.
        other = (("u",), (line("road", "u", "v"),))
        self.check([road, other], [], road)
        self.check([other, road, other], [], other)
        self.check([town, other, road], [], town, other)
        both = (("x",), PATH)
        self.check([both, road], [], road)
        self.check([road, both], [], road)
        self.check([both, town, road], [], town, road)
        self.check([both, town], [], both, town)

    def test_only_those_that_still_stand_count(self):
        rules = [("points", "a", (0,), "b", (0,), 1), ("points", "b", (0,), "a", (0,), 1)]
        first, second = (("x",), (line("a", "x"),)), (("x",), (line("b", "x"),))
        self.check([first, second], rules, first)
        self.check([second, first], rules, second)
        self.check([first, second], rules[:1], second)
        self.check([first, second], rules[1:], first)

    def test_lines_go_ahead_of_alternatives(self):
        long = (("x",), (line("road", "x", "y"), line("road", "x", "z")))
        other = (("x",), (line("road", "x", "y"), line("road", "z", "y"), line("road", "z", "x")))
        self.check([long, other], [], (("x",), (line("road", "x", "z"),)))
        self.check([long, long], [], (("x",), (line("road", "x", "z"),)))

    def test_alternatives_whose_chase_ends_in_a_clash(self):
        self.check([CLASH], [], CLASH)
        self.check([CLASH], [KEY])
        self.check([CLASH, CLASH], [KEY])
        road = (("x",), (line("road", "x", "y"),))
        self.check([CLASH, road], [KEY], road)
        self.check([road, CLASH], [KEY], road)
        # Without one of its lines it would answer something.
        lines = CLASH[1] + (line("road", "x", "y"),)
        self.check([(("x",), lines)], [KEY])

    def test_rules_left_out_none_and_empty(self):
        question = [(("x",), PATH + (line("road", "x", "w"),)), CLASH]
        told = [(("x",), PATH), CLASH]
        self.assertEqual(least(question), told)
        self.assertEqual(least(question, None), told)
        self.assertEqual(least(question, rules=[]), told)

    def test_as_when_tried(self):
        shorter, fewer = 0, 0
        for one, other, rules in thrown_pairs(500):
            told = least(one, rules)
            self.assertEqual(told, tried_least(one, rules), (one, rules))
            fewer += len(told) < len(one)
            shorter += sum(len(lines) for head, lines in told) < sum(len(lines) for head, lines in one)
        self.assertGreater(fewer, 50)
        self.assertGreater(shorter, 100)

    def test_it_asks_the_same_and_its_own_least_is_itself(self):
        for one, other, rules in thrown_pairs(500):
            told = least(one, rules)
            self.assertEqual(least(told, rules), told, (one, rules))
            self.assertNotEqual(same(told, one, rules), "no", (one, rules))
            self.assertEqual(same(least(one), one), "yes", one)

    def test_least_ones_of_questions_that_ask_the_same(self):
        dice = Dice(23)
        shorter = 0
        for one, other, rules in thrown_pairs(500):
            more = padded(dice, one)
            self.assertEqual(same(one, more), "yes", (one, more))
            told, others = least(one), least(more)
            self.assertTrue(alike_but_for_names_and_order(told, others), (told, others))
            shorter += told != one
        self.assertGreater(shorter, 100)

    def test_least_ones_of_thrown_questions_that_ask_the_same(self):
        alike = 0
        for one, other, rules in thrown_pairs(2000):
            if same(one, other) == "yes":
                self.assertTrue(alike_but_for_names_and_order(least(one), least(other)), (one, other))
                alike += 1
        self.assertGreater(alike, 100)

    def test_what_is_handed_in_stays(self):
        question = [CLASH, (("x",), PATH + (line("road", "x", "w"),)), (("x",), PATH)]
        before = copy.deepcopy(question)
        told = least(question, [KEY])
        self.assertEqual(question, before)
        told.clear()
        self.assertEqual(least(question, [KEY]), [(("x",), PATH)])
        plain = [(("x",), PATH)]
        least(plain).clear()
        self.assertEqual(plain, [(("x",), PATH)])


class TestNeeded(Refusing):
    def check(self, question, rules, *told):
        self.assertTrue(is_question(question) and all(is_rule(rule) for rule in rules))
        self.assertEqual(self.unchanged(needed, question, rules), list(told))

    def test_no_alternatives(self):
        self.check([], [])
        self.check([], [KEY])

    def test_an_only_alternative(self):
        self.check([((), ())], [], (("not", 0, {}, ()), []))
        self.check([CLASH], [], (("not", 0, {"t": [(3, 1), (3, 2)]}, (3,)), [
            ("not", 0, {"t": [(3, 2)]}, (3,)), ("not", 0, {"t": [(3, 1)]}, (3,)),
        ]))
        self.check([CLASH], [KEY], (("within", [("clash", [("clash", 0, 0, 1, 1)])]), [
            ("not", 0, {"t": [(3, 2)]}, (3,)), ("not", 0, {"t": [(3, 1)]}, (3,)),
        ]))
        lines = (line("t", "x", "y"),)
        self.check([((), lines)], [DEEP], (("open", [0]), [("not", 0, {}, ())]))

    def test_lines(self):
        lines = (line("road", "x", "y"), line("road", "x", "z"), line("town", "y"))
        self.check([(("x",), lines)], [], (("not", 0, {"road": [(1, 2), (1, 3)], "town": [(2,)]}, (1,)), [
            ("not", 0, {"road": [(1, 2)], "town": [(3,)]}, (1,)),
            ("within", [("map", 0, [("x", "x"), ("y", "y"), ("z", "y")], [])]),
            ("not", 0, {"road": [(1, 2), (1, 3)]}, (1,)),
        ]))

    def test_a_name_of_the_head(self):
        lines = (line("road", "x", "y"), line("road", "x", "z"))
        own = ("not", 0, {"road": [(1, 2), (1, 3)]}, (2,))
        within_map = ("within", [("map", 0, [("x", "x"), ("y", "y"), ("z", "y")], [])])
        self.check([(("y",), lines)], [], (own, [("head", "y"), within_map]))

    def test_the_first_such_name_in_the_heads_order(self):
        lines = (line("t", "x", "y", "z"),)
        for head in itertools.permutations(["x", "y", "z"]):
            self.assertEqual(needed([(head, lines)])[0][1], [("head", head[0])])
            self.assertEqual(needed([((4,) + head, lines)])[0][1], [("head", head[0])])
        lines = lines + (line("u", "z"), line("u", "w"))
        told = needed([(("z", "w", "y", "x"), lines)])[0][1]
        self.assertEqual([told[0], told[2]], [("head", "y"), ("head", "w")])
        # Without the second line each name of the head stands in another one.
        self.assertEqual(told[1][0], "not")
        self.assertEqual(needed([(("y", "y"), lines)])[0][1][0], ("head", "y"))

    def test_alike_lines_are_lines(self):
        own = line("road", "x", "y")
        pairs = [("x", "x"), ("y", "y")]
        told = ("within", [("map", 0, pairs, [])])
        self.check([(("x",), (own, own))], [], (("not", 0, {"road": [(1, 2)]}, (1,)), [told, told]))

    def test_alternatives(self):
        road, town, both = (("x",), (line("road", "x", "y"),)), (("x",), (line("town", "x"),)), (("x",), PATH)
        told = needed([road, town, both])
        self.assertEqual([own for own, lines in told], [
            ("not", 0, {"road": [(1, 2)]}, (1,)),
            ("not", 0, {"town": [(1,)]}, (1,)),
            ("within", [("map", 0, [("x", "x"), ("y", "y")], [])]),
        ])
        # All others count, by number, those too that may be left out.
        told = needed([road, road, town])
        self.assertEqual(told[0][0], ("within", [("map", 0, [("x", "x"), ("y", "y")], [])]))
        self.assertEqual(told[1][0], told[0][0])
        told = needed([town, both, road])
        self.assertEqual(told[1][0], ("within", [("map", 1, [("x", "x"), ("y", "y")], [])]))

    def test_numbers_of_all_others_count(self):
        told = needed([((), (line("t", "x"),)), ((), (line("u", 40),))])
        self.assertEqual(told[0], (("not", 0, {"t": [(41,)]}, ()), [("not", 0, {}, ())]))
        # Of its lines it is asked alone.
        lines = (line("t", "x"), line("u", "x"))
        told = needed([((), lines), ((), (line("u", 40),))])
        self.assertEqual(told[0][1], [("not", 0, {"u": [(1,)]}, ()), ("not", 0, {"t": [(1,)]}, ())])
        told = needed([((), (line("t", 6), line("u", "x")))])
        self.assertEqual(told[0][1], [("not", 0, {"u": [(7,)]}, ()), ("not", 0, {"t": [(6,)]}, ())])

    def test_under_rules(self):
        lines = (line("road", "x", "y"), line("town", "y"))
        told = needed([(("x",), lines)], [TOWNS])
        self.assertEqual(told[0][1][1], ("within", [("map", 0, [("x", "x"), ("y", "y")], [("put", 0, 0)])]))
        self.assertEqual(told[0][1][0], ("head", "x"))
        lines = (line("t", "x", "y"), line("t", "z", "z"))
        self.assertEqual(needed([(("x",), lines)], [DEEP])[0], (("open", [0]), [("head", "x"), ("open", [0])]))

    def test_rules_left_out_none_and_empty(self):
        question = [(("x",), PATH), CLASH]
        self.assertEqual(needed(question), needed(question, []))
        self.assertEqual(needed(question, None), needed(question, rules=[]))

    def test_the_kinds(self):
        told = needed([CLASH], [KEY])
        self.assertEqual([type(told), type(told[0]), type(told[0][0]), type(told[0][1])], [list, tuple, tuple, list])
        self.assertEqual(type(needed([(("x",), PATH)])[0][1][0]), tuple)

    def test_as_when_tried(self):
        for one, other, rules in thrown_pairs(400):
            self.assertEqual(needed(one, rules), tried_needed(one, rules), (one, rules))

    def test_nothing_in_a_least_question_is_told_as_within(self):
        words = {"not": 0, "open": 0, "head": 0}
        for one, other, rules in thrown_pairs(1000):
            for own, lines in needed(least(one, rules), rules):
                for told in [own] + lines:
                    words[told[0]] = words.get(told[0], 0) + 1
        self.assertEqual(sorted(words), ["head", "not", "open"])
        self.assertGreater(min(words.values()), 30)

    def test_without_rules_all_is_not_or_head_in_a_least_question(self):
        for one, other, rules in thrown_pairs(500):
            for own, lines in needed(least(one)):
                self.assertLessEqual({told[0] for told in [own] + lines}, {"not", "head"})

    def test_what_is_told_is_the_askers_own(self):
        question, rules = [CLASH, (("x",), PATH), (("x",), PATH[:1])], [KEY]
        told = self.unchanged(needed, question, rules)
        before = copy.deepcopy(told)
        told[0][0][1].clear()
        told[0][1].clear()
        told.clear()
        self.assertEqual(needed(question, rules), before)


if __name__ == "__main__":
    unittest.main()
