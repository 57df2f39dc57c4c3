import copy
import re
import unittest

from things import Dice, odd_things, thrown_pairs, wheel

from askwithin.desk import Desk
from askwithin.errors import AskError, Full, NoDeed, NoName, NoRow, NoTable, NoText, TooMany
from askwithin.inside import same, within
from askwithin.least import least
from askwithin.papers import why
from askwithin.rules import keeps
from askwithin.terms import is_name, names_of
from askwithin.texts import read_question, read_row, read_rule, show_question, show_row, show_rule
from askwithin.thin import many, plan_answers
from askwithin.trees import ring
from askwithin.walk import answers

MAP = ["table road 2", "table town 1", "put road 3 7", "put road 7 3", "put road 1 3", "put town 3"]


def desk_with(*rows):
    desk = Desk()
    for row in rows:
        desk.say(row)
    return desk


def kept(desk):
    book = desk.book
    return [(book.tables(), [book.width(table) for table in book.tables()], book.plain()),
            copy.deepcopy(desk.rules), copy.deepcopy(desk.questions)]


def wheel_rows(lengths):
    """Rows that tell a desk the tables of a wheel, and the wheel's lines as a text."""
    book, lines = wheel(lengths)
    rows = []
    for table, own in book.items():
        rows += [f"table {table} 2"] + [f"put {table} {show_row(row)}" for row in own]
    return rows, show_question([((), lines)])[2:]


class Telling(unittest.TestCase):
    def said(self, desk, *pairs):
        """Rows with their answers, told in their order."""
        for row, answer in pairs:
            told = desk.say(row)
            self.assertEqual(told, answer, row)
            self.assertIs(type(told), str)

    def refused(self, desk, error, *rows):
        """Each refused by this class and no other one, with nothing changed."""
        before = kept(desk)
        for place, row in enumerate(rows):
            with self.assertRaises(AskError, msg=f"row {place}") as taken:
                desk.say(row)
            shown = row if isinstance(row, str) and len(row) < 1000 else place
            self.assertIs(type(taken.exception), error, shown)
            self.assertIsInstance(taken.exception, ValueError)
            self.assertEqual(kept(desk), before, shown)

    def same_again(self, desk, *pairs):
        """Rows that ask: they change nothing, and asked again they are answered the same."""
        before = kept(desk)
        self.said(desk, *pairs, *pairs, *pairs[::-1])
        self.assertEqual(kept(desk), before)


class TestRows(Telling):
    def test_tables(self):
        desk = Desk()
        self.said(desk, ("table road 2", "ok"), ("table town 1", "ok"), ("table abcdefghij09 6", "ok"))
        self.same_again(desk, ("rows road", "no rows"), ("rows town", "no rows"), ("rows abcdefghij09", "no rows"))
        for width in range(1, 7):
            self.said(desk, (f"table t{width} {width}", "ok"))
            values = " ".join(["5"] * width)
            self.said(desk, (f"put t{width} {values}", "new"), (f"rows t{width}", values))
            self.refused(desk, NoText, f"put t{width} " + " ".join(["5"] * 7))
            if width > 1:
                self.refused(desk, NoRow, f"put t{width} " + " ".join(["5"] * (width - 1)))

    def test_a_new_table_leaves_the_others_as_they_are(self):
        desk = desk_with(*MAP, "ask q x : road x y, town y", "rule key road 0")
        self.said(desk, ("table lake 3", "ok"), ("rows road", "1 3; 3 7; 7 3"), ("rows town", "3"), ("rules", "kept"))
        self.said(desk, ("show q", "x : road x y, town y"), ("answers q", "1; 7"), ("put road 3 7", "old"))

    def test_put_and_drop(self):
        desk = desk_with("table road 2")
        self.said(desk, ("put road 3 7", "new"), ("put road 3 7", "old"), ("put road 7 3", "new"))
        self.said(desk, ("rows road", "3 7; 7 3"), ("drop road 3 7", "gone"), ("drop road 3 7", "none"))
        self.said(desk, ("rows road", "7 3"), ("drop road 1 1", "none"), ("drop road 7 3", "gone"))
        self.said(desk, ("rows road", "no rows"), ("put road 7 3", "new"))

    def test_rows_are_sorted(self):
        desk = desk_with("table road 2", "put road 10 1", "put road 9 2", "put road -1 5", "put road 9 -2")
        self.same_again(desk, ("rows road", "-1 5; 9 -2; 9 2; 10 1"))

    def test_values_of_many_figures(self):
        far = "9" * 70
        desk = desk_with("table road 2", f"put road {far} -{far}", "ask q x y : road x y")
        self.same_again(desk, ("rows road", f"{far} -{far}"), ("answers q", f"{far} -{far}"),
                        ("plan q", f"{far} -{far}"))
        self.said(desk, (f"why q {far} -{far}", f"yes 0 x={far} y=-{far}"), (f"drop road {far} -{far}", "gone"))
        self.refused(desk, NoText, f"put road {far}9 1", f"drop road 1 -{far}9", f"why q {far}9 1")

    def test_ask_and_show(self):
        desk = desk_with(*MAP)
        for text in ("x 7 : road x y, road y 7 | x x : town x", ": town 3", ":", "none", "5 -5 :", ": | : | :"):
            self.said(desk, (f"ask q {text}", "ok"), ("show q", text), ("show q", text))

    def test_a_question_in_the_place_of_one(self):
        desk = desk_with(*MAP)
        self.said(desk, ("ask q x : road x y", "ok"), ("ask r none", "ok"), ("ask q y : road x y", "ok"))
        self.said(desk, ("show q", "y : road x y"), ("show r", "none"), ("answers q", "3; 7"), ("ask q none", "ok"))
        self.said(desk, ("show q", "none"))

    def test_names_that_read_like_words_and_tables(self):
        desk = desk_with("table ask 1", "table none 2", "put ask 4")
        self.said(desk, ("ask ask ask : ask ask", "ok"), ("show ask", "ask : ask ask"), ("answers ask", "4"))
        self.said(desk, ("ask none none", "ok"), ("show none", "none"), ("within none ask", "within"))
        self.said(desk, ("rule key none 1", "ok"), ("rule points ask 0 to none 1 of 2", "ok"), ("rules", "kept broken"))
        self.said(desk, ("least least ask", "ok"), ("show least", "ask : ask ask"), ("why least 4", "yes 0 ask=4"))

    def test_answers_and_plan(self):
        desk = desk_with(*MAP, "ask q x z : road x y, road y z, town y", "ask yes : road 3 7", "ask no : road 3 8",
                         "ask none none", "ask empty :", "ask two : road 9 9 | :", "ask number 0 : road x y")
        for word in ("answers", "plan"):
            self.same_again(desk, (f"{word} q", "1 7; 7 7"), (f"{word} yes", "yes"), (f"{word} no", "no rows"))
            self.same_again(desk, (f"{word} none", "no rows"), (f"{word} empty", "yes"), (f"{word} two", "yes"))
            self.same_again(desk, (f"{word} number", "0"))

    def test_many(self):
        desk = desk_with(*MAP, "ask q x : road x y | x : town x | x : road x x", "ask none none", "ask empty : | :",
                         "ask far : road a b, road c d, road e f, road g h, road i j")
        self.same_again(desk, ("many q", "3 1 0"), ("many none", "none"), ("many empty", "1 1"), ("many far", "243"))

    def test_many_far_above_what_could_be_listed(self):
        desk = desk_with("table t 1", *[f"put t {k}" for k in range(60)], "ask q : t a, t b, t c, t d, t e | : t a")
        self.said(desk, ("many q", "777600000 60"))

    def test_ring(self):
        around = "e a b, e b c, e c a"
        desk = desk_with("table e 2", "table t 1", "ask none none", "ask tree : e a b, e b c", "ask empty :",
                         f"ask ring : {around}", f"ask more a : {around}, e c d | a : e a b | a : t a, {around}",
                         "ask five : e a b, e b c, e c d, e d f, e f a")
        self.same_again(desk, ("ring none", "none"), ("ring tree", "tree"), ("ring empty", "tree"),
                        ("ring ring", "0-1-2"))
        self.same_again(desk, ("ring more", "0-1-2 tree 1-2-3"), ("ring five", "0-1-2-3-4"))

    def test_within(self):
        desk = desk_with(*MAP, "ask q x : road x y, road y z", "ask r a : road a b", "ask t : town 3", "ask e :",
                         "ask none none", "ask w x y : road x y")
        self.same_again(desk, ("within q r", "within"), ("within r q", "not 1"), ("within q q", "within"))
        self.same_again(desk, ("within t e", "within"), ("within e t", "not"), ("within none q", "within"))
        self.same_again(desk, ("within q none", "not 1"), ("within w none", "not 1 2"), ("within w q", "not 1 2"))

    def test_same(self):
        desk = desk_with(*MAP, "ask q x : road x y, road y z", "ask r a : road a b", "ask s b : road b a, road b c")
        self.same_again(desk, ("same q r", "no"), ("same r q", "no"), ("same r s", "yes"), ("same s r", "yes"))
        self.same_again(desk, ("same q q", "yes"))

    def test_open(self):
        desk = desk_with("table t 2", "table u 1", "rule points t 1 to t 0 of 2", "ask q x : t x y",
                         "ask loop a : t a a", "ask more x : t x y, u x")
        self.same_again(desk, ("within q loop", "open"), ("within loop q", "within"), ("same q loop", "open"))
        self.same_again(desk, ("same loop q", "open"), ("within more loop", "open"), ("same loop more", "no"))

    def test_least(self):
        desk = desk_with(*MAP, "ask q x : road x y, road x z | x : road x w")
        self.said(desk, ("least r q", "ok"), ("show r", "x : road x z"),
                  ("show q", "x : road x y, road x z | x : road x w"))
        self.said(desk, ("least q q", "ok"), ("show q", "x : road x z"), ("least q r", "ok"), ("same q r", "yes"))
        # The one that stands by the new name is what it was when it was told.
        self.said(desk, ("ask q none", "ok"), ("show r", "x : road x z"), ("least s q", "ok"), ("show s", "none"))

    def test_why(self):
        desk = desk_with(*MAP, "put road 3 -7", "ask q x y : road x y | x x : town x", "ask e :", "ask yes : road x 3",
                         "ask none none", "ask n y : town x, road x y")
        self.same_again(desk, ("why q 3 -7", "yes 0 x=3 y=-7"), ("why q 3 3", "yes 1 x=3"), ("why q 7 7", "no"))
        self.same_again(desk, ("why q", "no"), ("why q 3", "no"), ("why q 3 7 3", "no"), ("why q 1 2 3 4 5 6", "no"))
        self.same_again(desk, ("why e", "yes 0"), ("why yes", "yes 0 x=1"), ("why none", "no"), ("why none 5", "no"))
        self.same_again(desk, ("why n 7", "yes 0 x=3 y=7"), ("why n -7", "yes 0 x=3 y=-7"), ("why e 0", "no"))

    def test_rules(self):
        desk = desk_with(*MAP)
        self.said(desk, ("rules", "none"), ("rule key road 0", "ok"), ("rules", "kept"))
        self.said(desk, ("rule points road 1 to town 0 of 1", "ok"), ("rules", "kept broken"))
        self.said(desk, ("put town 7", "new"), ("rules", "kept kept"), ("put road 3 3", "new"),
                  ("rules", "broken kept"))
        self.said(desk, ("drop town 7", "gone"), ("rules", "broken broken"), ("rule key road 0", "ok"))
        self.same_again(desk, ("rules", "broken broken broken"))
        self.said(desk, ("rule key town 0", "ok"), ("rules", "broken broken broken kept"))


class TestUnderRules(Telling):
    def test_rules_that_come_later(self):
        desk = desk_with("table road 2", "table town 1", "ask q x : road x y", "ask r x : road x y, town y")
        self.said(desk, ("within q r", "not 1"), ("same r q", "no"), ("least s r", "ok"),
                  ("show s", "x : road x y, town y"))
        self.said(desk, ("rule points road 1 to town 0 of 1", "ok"), ("within q r", "within"), ("same r q", "yes"))
        self.said(desk, ("show s", "x : road x y, town y"), ("least s r", "ok"), ("show s", "x : road x y"))

    def test_a_clash(self):
        desk = desk_with("table t 2", "ask q x : t x 1, t x 2", "ask none none")
        self.said(desk, ("within q none", "not 3"), ("rule key t 0", "ok"), ("within q none", "within"))
        self.said(desk, ("least r q", "ok"), ("show r", "none"), ("same q none", "yes"))

    def test_the_rules_in_their_order(self):
        # Where the endless rule stands first the chase ends ahead of the put that the map wants.
        endless, other = "rule points t 1 to t 0 of 2", "rule points t 0 to u 0 of 1"
        told = ["table t 2", "table u 1", "ask q a : t a b, t c d, t e f, t g h, t i j", "ask r x : t x y, u x"]
        self.said(desk_with(*told, other, endless), ("within q r", "within"))
        self.said(desk_with(*told, endless, other), ("within q r", "open"), ("same q r", "open"))
        self.said(desk_with(*told, endless, other, "ask r x : t x y"), ("within q r", "within"), ("same r q", "yes"))

    def test_a_least_question_by_the_rules_in_their_order(self):
        fills, other = [f"rule points p {k} to t 0 of 2" for k in range(4)], "rule points p 0 to s 0 of 1"
        text = "a e g : p a b c d, s a, t e f, t g h"
        told = ["table p 4", "table s 1", "table t 2", f"ask q {text}"]
        self.said(desk_with(*told, *fills, other), ("least l q", "ok"), ("show l", text))
        desk = desk_with(*told, other, *fills)
        self.said(desk, ("least l q", "ok"), ("show l", "a e g : p a b c d, t e f, t g h"), ("show q", text))

    def test_as_the_functions_tell(self):
        words = {"within": 0, "not": 0, "open": 0}
        for one, other, rules in thrown_pairs(300):
            desk = desk_with("table one 1", "table two 2", "table pair 2", "table three 3")
            self.said(desk, *[(f"rule {show_rule(rule)}", "ok") for rule in rules])
            self.said(desk, (f"ask q {show_question(one)}", "ok"), (f"ask r {show_question(other)}", "ok"))
            told = within(one, other, rules)
            row = " " + show_row(told[3]) if told[0] == "not" and told[3] else ""
            self.said(desk, ("within q r", told[0] + row), ("same q r", same(one, other, rules)))
            self.said(desk, ("least l q", "ok"), ("show l", show_question(least(one, rules))))
            words[told[0]] += 1
        self.assertGreater(min(words.values()), 3)


class TestNoDeed(Telling):
    def desk(self):
        return desk_with(*MAP, "rule key road 0", "ask q x : road x y")

    def test_rows_that_are_no_text(self):
        texts = [thing for thing in odd_things() if not isinstance(thing, str)]
        self.refused(self.desk(), NoDeed, *texts, ["rules"], ("rules",), {"rules": 1}, 7, b"rules", ("show", "q"))

    def test_first_words(self):
        self.refused(self.desk(), NoDeed, "", " ", "  ", "x", "Rules", "RULES", "rules.", " rules", "\nrules", "drops",
                     "tables", "asks q", "say q", "shows q", " show q", "row town", "answer q", "plans q", "no", "ok",
                     ":", "rings q", "whys q", "leasts r q", "quit", "help", "not q q", "within,q q", "show\tq", "none",
                     "1")

    def test_how_many_words(self):
        few = ["table", "table lake", "rule", "ask", "ask s", "least", "least s", "put", "put town", "drop",
               "drop town", "rows", "show", "answers", "plan", "many", "ring", "within", "within q", "same", "same q",
               "why"]
        self.refused(self.desk(), NoDeed, *few)
        more = ["table lake 2 2", "table lake 2 ", "least s q q", "least s q ", "rows town town", "rows town ",
                "show q q", "show q ", "answers q q", "answers q ", "plan q q", "plan q ", "many q q", "many q ",
                "ring q q", "ring q ", "within q q q", "within q q ", "same q q q", "same q q ", "rules q", "rules ",
                "rules  "]
        self.refused(self.desk(), NoDeed, *more)

    def test_two_blanks(self):
        self.refused(self.desk(), NoDeed, "table  lake 2", "table lake  2", "least  s q", "least s  q", "rows  town",
                     "show  q", "answers  q", "plan  q", "many  q", "ring  q", "within  q q", "within q  q",
                     "same  q q", "same q  q", "  rules", "rules  ")

    def test_words_without_signs(self):
        desk = self.desk()
        self.refused(desk, NoName, "show ", "answers ", "plan ", "many ", "ring ", "within  q", "within q ", "same  q",
                     "same q ", "least s ", "why ", "why  3", "why  ")
        self.refused(desk, NoTable, "rows ", "put  3", "drop  3")
        self.refused(desk, NoText, "table  2", "table lake ", "table  ", "rule ", "rule  ", "ask s ", "ask s  ",
                     "ask  :", "ask  ", "least  q", "put town ", "drop town ", "put  ", "why q ", "why q  ")

    def test_line_ends_and_tabs(self):
        desk = self.desk()
        self.refused(desk, NoDeed, "rules\n", "rules\t", "rules\r\n", "rules\u3000", "table\tlake\t2", "show\nq")
        self.refused(desk, NoName, "show q\n", "show q\t", "show \tq", "why q\t3", "why q\n", "within q q\n")
        self.refused(desk, NoText, "table lake 2\n", "table lake\t 2", "rule key road 0\n", "ask s :\n", "ask s\t :",
                     "put town 3\n", "drop town \t3", "why q 3\n", "least s\n q", "put town 3\u00a04", "ask s \u2003:")
        self.refused(desk, NoTable, "rows town\n", "put town\t 3", "drop \ttown 3", "rows \u00a0town")

    def test_very_long_rows(self):
        desk = self.desk()
        self.refused(desk, NoDeed, " " * 10 ** 6, "rules" * 10 ** 5, "rules " * 10 ** 5, "show " * 10 ** 5,
                     "x" * 10 ** 6)
        self.refused(desk, NoName, "show " + "q" * 10 ** 6, "why " + "q" * 10 ** 6)
        self.refused(desk, NoText, "ask s " + "x " * 10 ** 5, "put town " + "9" * 10 ** 6,
                     "rule key road " + "0" * 10 ** 6, "table lake " + "2" * 10 ** 6, "table " + "l" * 10 ** 6 + " 2",
                     "why q" + " 1" * 10 ** 5, "ask " + "s" * 10 ** 6 + " :", "put town" + " " * 10 ** 6,
                     "least " + "s" * 10 ** 6 + " q")


class TestRefusals(Telling):
    def test_names(self):
        desk = desk_with(*MAP, "ask q x : road x y")
        self.refused(desk, NoName, "show r", "answers r", "plan r", "many r", "ring r", "within q r", "within r q",
                     "within r s", "same q r", "same r q", "same r s", "why r", "why r 3", "least r r", "least s r",
                     "show Q", "show road", "show 3", "show :", "least q q2", "why Q 3", "show none")

    def test_texts(self):
        desk = desk_with(*MAP, "ask q x : road x y")
        self.refused(desk, NoText, "table Lake 2", "table lake 0", "table lake 7", "table lake x", "table lake 02",
                     "table lake +2", "table lake -1", "table lake 2.0", "table abcdefghijklm 2", "table 3 2",
                     "table lake 10", "table lake \u0662", "table lake two", "table l_ 2")
        self.refused(desk, NoText, "rule key road", "rule key road 1 0", "rule road 0", "rule points road 1 to town 0",
                     "rule key road 6", "rule points road 1 to town 0 of 7", "rule  key road 0", "rule key road 0 ")
        self.refused(desk, NoText, "ask S :", "ask 3 :", "ask abcdefghijklm :", "ask s x", "ask s x :",
                     "ask s road x y", "ask s :  road x y", "ask s : road x y ", "ask s  :", "ask s None",
                     "ask s : road x y, road x")
        self.refused(desk, NoText, "put town x", "put town 03", "put town 3 ", "put town  3", "put town 1 2 3 4 5 6 7",
                     "put town -0", "drop town x", "drop town 3;", "why q x", "why q 3 ", "why q  3", "why q 1,2",
                     "why q 1 2 3 4 5 6 7", "least S q", "least 3 q", "least abcdefghijklm q", "least s-t q")

    def test_tables(self):
        desk = desk_with(*MAP)
        self.refused(desk, NoTable, "table road 2", "table road 1", "table town 6")
        self.refused(desk, NoTable, "rule key lake 0", "rule key town 1", "rule key road 0 2", "rule key road 1 5")
        self.refused(desk, NoTable, "rule points lake 0 to town 0 of 1", "rule points road 2 to town 0 of 1",
                     "rule points road 0 to lake 0 of 1", "rule points road 0 to town 0 of 2",
                     "rule points road 0 to town 1 of 2", "rule points town 0 to road 0 of 1",
                     "rule points road 0 to road 1 of 3", "rule points town 1 to road 0 of 2",
                     "rule points road 1 0 to lake 0 1 of 2", "rule points road 5 to lake 0 of 1")
        self.refused(desk, NoTable, "ask q : lake x", "ask q : road x", "ask q : road x y z", "ask q : town x y",
                     "ask q : town x | : lake x", "ask q : town x | : road x", "ask q : town x, lake x",
                     "ask q x : roads x")
        self.refused(desk, NoTable, "put lake 3", "drop lake 3", "rows lake", "rows Town", "put Town 3", "put 3 3",
                     "drop : 3", "rows 3", "rows q")
        self.said(desk, ("rule key road 0 1", "ok"), ("rule points road 1 0 to road 0 1 of 2", "ok"))
        self.said(desk, ("rule points town 0 to road 1 of 2", "ok"), ("rules", "kept broken kept"))

    def test_rows_of_another_length(self):
        desk = desk_with(*MAP)
        self.refused(desk, NoRow, "put road 3", "put road 3 7 3", "put town 3 3", "put town 1 2 3 4 5 6", "drop road 3",
                     "drop town 3 7", "drop road 1 2 3")

    def test_full_tables(self):
        desk = desk_with("table t 1", "table u 1", *[f"put t {k}" for k in range(60)])
        self.refused(desk, Full, "put t 60", "put t -1")
        self.said(desk, ("put t 59", "old"), ("drop t 60", "none"), ("put u 60", "new"), ("drop t 5", "gone"))
        self.said(desk, ("put t 60", "new"), ("put t 60", "old"))
        self.refused(desk, Full, "put t 5")

    def test_the_thirteenth_table(self):
        desk = desk_with(*[f"table t{k} 1" for k in range(12)])
        self.refused(desk, Full, "table t12 1", "table u 6")
        self.refused(desk, NoTable, "table t11 1", "table t0 2")
        self.refused(desk, NoText, "table T 1", "table t12 7")
        self.said(desk, ("put t11 5", "new"), ("rows t11", "5"))

    def test_the_seventh_rule(self):
        desk = desk_with("table t 2", *["rule key t 0"] * 6)
        self.refused(desk, Full, "rule key t 0", "rule key t 1", "rule points t 1 to t 0 of 2")
        self.refused(desk, NoTable, "rule key u 0", "rule key t 2")
        self.refused(desk, NoText, "rule key t", "rule ")
        self.said(desk, ("rules", "kept kept kept kept kept kept"))

    def test_the_ninth_question(self):
        desk = desk_with("table t 1", *[f"ask q{k} :" for k in range(8)])
        self.refused(desk, Full, "ask q8 :", "ask r none", "least q8 q0", "least r q7")
        self.refused(desk, NoTable, "ask q8 : u x", "ask q0 : t x y")
        self.refused(desk, NoText, "ask q8 x", "ask R :", "least R q0")
        self.refused(desk, NoName, "least q0 q8", "least q8 q8", "least R q8")
        self.said(desk, ("ask q7 : t x", "ok"), ("show q7", ": t x"), ("least q0 q7", "ok"), ("show q0", ": t x"))
        self.said(desk, ("ask q0 none", "ok"), ("least q7 q0", "ok"), ("show q7", "none"), ("least q1 q1", "ok"))

    def test_the_first_that_is_due(self):
        desk = desk_with(*MAP, "ask q x : road x y")
        self.refused(desk, NoDeed, "least S r q", "within r s t", "show r s", "table road 9 9")
        self.refused(desk, NoName, "least S r", "why r x", "why r ", "within r S", "least  r")
        self.refused(desk, NoText, "put lake x", "drop lake x", "put Lake 07", "ask S : lake x",
                     "ask s : lake x y, lake x", "ask S : road x", "rule key lake 1 0", "table road 0", "table Road 2",
                     "put town 1 x", "ask S x", "put road 1 2 3 4 5 6 7", "table road 7", "put lake 1 2 3 4 5 6 7")
        self.refused(desk, NoTable, "put lake 1 2 3", "drop lake 1 2 3 4 5 6")
        desk = desk_with("table t 1", *[f"table t{k} 1" for k in range(11)], *[f"put t {k}" for k in range(60)],
                         *["rule key t 0"] * 6, *[f"ask q{k} : t x, t y, t z" for k in range(8)])
        self.refused(desk, NoRow, "put t 60 1", "put t 1 1")
        self.refused(desk, NoTable, "put u 60", "put u 1 2", "table t 1", "rule key u 0", "rule key t 1", "ask r : u x",
                     "ask r : t x y", "table t10 3")
        self.refused(desk, NoText, "put t x", "put u x", "table t 7", "table u 7", "rule key u", "ask R : u x",
                     "ask r : u", "least R q0", "put t 1 x", "why q0 x", "ask q0 x")
        self.refused(desk, NoName, "least R r", "least r r", "answers r", "within q0 r", "why r x")
        self.refused(desk, Full, "put t 60", "table u 1", "rule key t 0", "ask r :", "least r q0",
                     "ask r : t x, t y, t z")
        self.refused(desk, TooMany, "answers q0", "plan q0")
        self.refused(desk, NoDeed, "answers q0 ", "plan q0 q1", "ask r", "least R r ", "put t")


class TestTooMany(Telling):
    def lines_of(self, lengths):
        rows = []
        for k, length in enumerate(lengths):
            rows += [f"table t{k} 1"] + [f"put t{k} {number}" for number in range(length)]
        return desk_with(*rows, "ask q : t0 x, t1 y, t2 z", "ask r x : t0 x | x : t0 x, t1 y, t2 z", "ask s : t0 x")

    def test_answers_and_plan(self):
        desk = self.lines_of([32, 32, 4])
        numbers = "; ".join(map(str, range(32)))
        for word in ("answers", "plan"):
            self.said(desk, (f"{word} q", "yes"), (f"{word} r", numbers), (f"{word} s", "yes"))
        self.said(desk, ("many q", "4096"))
        desk = self.lines_of([41, 50, 2])
        self.refused(desk, TooMany, "answers q", "plan q", "answers r", "plan r")
        # Without a ring nothing but the telling of all matches is too much.
        self.said(desk, ("many q", "4100"), ("many r", "41 4100"), ("answers s", "yes"), ("why q", "yes 0 x=0 y=0 z=0"))
        self.said(desk, ("drop t2 1", "gone"), ("answers q", "yes"), ("plan q", "yes"), ("put t2 5", "new"))
        self.refused(desk, TooMany, "answers q", "plan q")

    def test_the_walk_alone(self):
        # A plan is told where there are few matches, however many ways there are.
        desk = desk_with("table e 2", *[f"put e {k} {k + 1}" for k in range(60)], "ask q a d : e a b, e b c, e c d")
        self.refused(desk, TooMany, "answers q")
        self.said(desk, ("many q", "58"), ("plan q", "; ".join(f"{k} {k + 3}" for k in range(58))))

    def test_a_ring(self):
        rows, lines = wheel_rows([32, 32, 4])
        desk = desk_with(*rows, f"ask q x0 : {lines}", f"ask r x0 : t0 x0 x1 | x0 : {lines}")
        for word in ("answers", "plan"):
            self.said(desk, (f"{word} q", "0; 1; 2; 3"))
        self.said(desk, ("many q", "4"), ("many r", "32 4"), ("ring r", "tree 0-1-2"),
                  ("why q 3", "yes 0 x0=3 x1=3 x2=3"))
        rows, lines = wheel_rows([41, 50, 2])
        desk = desk_with(*rows, f"ask q x0 : {lines}", f"ask r x0 : t0 x0 x1 | x0 : {lines}")
        self.refused(desk, TooMany, "answers q", "plan q", "many q", "answers r", "plan r", "many r")
        self.said(desk, ("ring q", "0-1-2"), ("show q", f"x0 : {lines}"), ("within q r", "within"), ("least l q", "ok"))
        # With the row's number put in there is no ring any more.
        self.said(desk, ("why q 1", "yes 0 x0=1 x1=1 x2=1"), ("why r 40", "yes 0 x0=40 x1=40"), ("why q 40", "no"))

    def test_why(self):
        rows, lines = wheel_rows([32, 32, 4])
        desk = desk_with(*rows, f"ask q : {lines}", f"ask r : | : {lines}", f"ask s 5 : t0 7 7 | 5 : {lines}")
        self.said(desk, ("why q", "yes 0 x0=0 x1=0 x2=0"), ("why r", "yes 0"), ("why s 5", "yes 0"), ("why s 6", "no"))
        rows, lines = wheel_rows([41, 50, 2])
        desk = desk_with(*rows, f"ask q : {lines}", f"ask r : | : {lines}", f"ask s 5 : t0 7 7 | 5 : {lines}")
        self.refused(desk, TooMany, "why q", "why r", "why s 5")
        # A row that isn't bound is no reason.
        self.said(desk, ("why q 1", "no"), ("why r 1 2", "no"), ("why s 6", "no"), ("why s", "no"))


class TestDesks(Telling):
    def test_two_desks_know_nothing_of_each_other(self):
        one, other = Desk(), Desk()
        self.said(one, ("table t 1", "ok"), ("put t 5", "new"), ("rule key t 0", "ok"), ("ask q x : t x", "ok"))
        self.refused(other, NoTable, "rows t", "put t 5", "rule key t 0", "ask q x : t x")
        self.refused(other, NoName, "show q")
        self.said(other, ("rules", "none"), ("table t 2", "ok"), ("put t 5 6", "new"), ("ask q x : t x x", "ok"))
        self.said(other, ("rule key t 0 1", "ok"), ("rule key t 1", "ok"))
        self.said(one, ("rows t", "5"), ("show q", "x : t x"), ("rules", "kept"), ("answers q", "5"))
        self.said(Desk(), ("rules", "none"))

    def test_nothing_refused_is_kept(self):
        desk = Desk()
        self.refused(desk, NoTable, "rule key t 0", "ask q : t x", "put t 3")
        self.refused(desk, NoText, "table t 7", "ask q x")
        self.refused(desk, NoName, "show q")
        self.refused(desk, NoTable, "rows t")
        self.said(desk, ("rules", "none"), ("table t 1", "ok"), ("rows t", "no rows"))

    def test_the_kinds_of_answers(self):
        desk = desk_with(*MAP, "ask q x : road x y")
        for row in ("rows road", "show q", "many q", "ring q", "within q q", "same q q", "why q 3", "rules"):
            self.assertIs(type(desk.say(row)), str)


FORMS = {
    "table": "table ([^ ]*) ([^ ]*)", "rule": "rule (.*)", "ask": "ask ([^ ]*) (.*)", "least": "least ([^ ]*) ([^ ]*)",
    "put": "put ([^ ]*) (.*)", "drop": "drop ([^ ]*) (.*)", "rows": "rows ([^ ]*)", "show": "show ([^ ]*)",
    "answers": "answers ([^ ]*)", "plan": "plan ([^ ]*)", "many": "many ([^ ]*)", "ring": "ring ([^ ]*)",
    "within": "within ([^ ]*) ([^ ]*)", "same": "same ([^ ]*) ([^ ]*)", "why": "why ([^ ]*)(?: (.*))?",
    "rules": "rules",
}
# The places of the names by which a question is to stand.
ASKED = {"least": [1], "within": [0, 1], "same": [0, 1], "why": [0], "show": [0], "answers": [0], "plan": [0],
         "many": [0], "ring": [0]}


class Model:
    """A desk by the document's words: the refusals one after another, each over the whole row, then the answer."""

    def __init__(self):
        self.widths, self.held, self.rules, self.questions = {}, {}, [], {}

    def say(self, row):
        found = [(word, re.fullmatch(form, row, re.DOTALL)) for word, form in FORMS.items()]
        found = [(word, match.groups()) for word, match in found if match]
        if not found:
            return NoDeed
        (word, parts), = found
        if any(parts[place] not in self.questions for place in ASKED.get(word, [])):
            return NoName
        try:
            read = self.read(word, parts)
        except NoText:
            return NoText
        for refused in (self.no_table, self.no_row, self.full):
            error = refused(word, parts, read)
            if error:
                return error
        try:
            return self.answer(word, parts, read)
        except TooMany:
            return TooMany

    def read(self, word, parts):
        if word in ("ask", "least") and not is_name(parts[0]):
            raise NoText
        if word == "table" and (not is_name(parts[0]) or not re.fullmatch("[1-6]", parts[1])):
            raise NoText
        readers = {"rule": read_rule, "ask": read_question, "put": read_row, "drop": read_row, "why": read_row}
        if word == "why" and parts[1] is None:
            return ()
        return readers[word](parts[-1]) if word in readers else None

    def no_table(self, word, parts, read):
        wanted = []
        if word == "table":
            return NoTable if parts[0] in self.widths else None
        if word in ("put", "drop", "rows"):
            return None if parts[0] in self.widths else NoTable
        if word == "rule":
            if self.widths.get(read[1], 0) <= max(read[2]):
                return NoTable
            wanted = [(read[3], read[5])] if read[0] == "points" else []
        if word == "ask":
            wanted = [(table, len(terms)) for head, lines in read for table, terms in lines]
        return NoTable if any(self.widths.get(table) != width for table, width in wanted) else None

    def no_row(self, word, parts, read):
        return NoRow if word in ("put", "drop") and len(read) != self.widths[parts[0]] else None

    def full(self, word, parts, read):
        if word == "put" and read not in self.held[parts[0]] and len(self.held[parts[0]]) == 60:
            return Full
        if word in ("ask", "least") and parts[0] not in self.questions and len(self.questions) == 8:
            return Full
        if word == "rule" and len(self.rules) == 6 or word == "table" and len(self.widths) == 12:
            return Full
        return None

    def answer(self, word, parts, read):
        if word == "table":
            self.widths[parts[0]], self.held[parts[0]] = int(parts[1]), set()
        elif word == "rule":
            self.rules.append(read)
        elif word == "ask":
            self.questions[parts[0]] = read
        elif word == "least":
            self.questions[parts[0]] = least(self.questions[parts[1]], self.rules)
        else:
            return self.told(word, parts, read)
        return "ok"

    def told(self, word, parts, read):
        book = {table: sorted(own) for table, own in self.held.items()}
        if word in ("put", "drop"):
            own, there = self.held[parts[0]], read in self.held[parts[0]]
            (own.add if word == "put" else own.discard)(read)
            return {"put": ["new", "old"], "drop": ["none", "gone"]}[word][there]
        if word == "rows":
            return self.rows(book[parts[0]])
        if word == "rules":
            return " ".join("kept" if keeps(book, [rule]) else "broken" for rule in self.rules) or "none"
        asked = [self.questions[parts[place]] for place in ASKED[word]]
        if word == "within":
            told = within(*asked, self.rules)
            return told[0] + "".join(f" {number}" for number in (told[3] if told[0] == "not" else ()))
        if word == "why":
            told = why(book, asked[0], read)
            if told is None:
                return "no"
            pairs = zip(names_of(asked[0][told[0]][1]), told[1], strict=True)
            return f"yes {told[0]}" + "".join(f" {name}={number}" for name, number in pairs)
        return {
            "show": lambda: show_question(asked[0]), "same": lambda: same(*asked, self.rules),
            "answers": lambda: self.rows(answers(book, asked[0])),
            "plan": lambda: self.rows(plan_answers(book, asked[0])),
            "many": lambda: " ".join(str(many(book, lines)) for head, lines in asked[0]) or "none",
            "ring": lambda: " ".join("-".join(map(str, ring(lines))) or "tree" for head, lines in asked[0]) or "none",
        }[word]()

    def rows(self, rows):
        if rows == [()]:
            return "yes"
        return "; ".join(" ".join(str(value) for value in row) for row in rows) or "no rows"


def thrown_word(dice, kind):
    pools = {
        "name": ["q", "r", "q", "r", "s", "p"], "new": ["q", "r", "s", "p", "q", "Q", "", "3", "none"],
        "table": ["t", "u", "t", "u", "v", "w"], "width": ["1", "2", "2", "2", "3", "0", "7", "x", "", "02"],
        "row": ["1", "1 2", "2 1", "2 2", "0 1", "1 1", "3", "1 2 3", "x", "", "1 ", "01", "1 2 3 4 5 6 7"],
        "rule": ["key t 0", "key u 0", "key t 1", "key u 2", "key w 0", "key t 0 0", "points t 1 to t 0 of 2", "",
                 "points t 0 to u 1 of 2", "points u 1 to t 0 of 2", "points t 0 to u 0 of 1",
                 "points t 0 to w 0 of 1"],
        "question": ["x : t x y", "x : t x y, u y z", ": t x y, u y x", "none", ":", "x : t x y, t x z | x : u x x",
                     "x y : t x y, t y z, t z x", ": w x", "x", "", "x : t x", "x : v x", ": t 1 2 | : u x y, t y 2"],
    }
    return dice.pick(pools[kind])


WANTED = {
    "table": ["table", "width"], "rule": ["rule"], "ask": ["new", "question"], "least": ["new", "name"],
    "put": ["table", "row"], "drop": ["table", "row"], "rows": ["table"], "show": ["name"], "answers": ["name"],
    "plan": ["name"], "many": ["name"], "ring": ["name"], "within": ["name", "name"], "same": ["name", "name"],
    "why": ["name", "row"], "rules": [],
}


class TestThrownRows(Telling):
    def row(self, dice):
        word = dice.pick(sorted(WANTED) + ["put", "ask", "table", "why"])
        words = [word] + [thrown_word(dice, kind) for kind in WANTED[word]]
        fault = dice.throw(30)
        if fault == 0:
            words = words[:-1]
        elif fault == 1:
            words = words + [dice.pick(["", "q", "3"])]
        elif fault == 2:
            words = [dice.pick(["", "say", "Rows"])] + words[1:]
        return " ".join(words)

    def test_as_the_document_says(self):
        dice = Dice(37)
        seen = {}
        for k in range(60):
            desk, model = Desk(), Model()
            for row in ["table t 2", "table u 2"][:dice.throw(3)] + [self.row(dice) for step in range(150)]:
                wanted = model.say(row)
                if isinstance(wanted, str):
                    self.said(desk, (row, wanted))
                else:
                    self.refused(desk, wanted, row)
                seen[wanted] = seen.get(wanted, 0) + 1
            self.assertEqual(kept(desk)[1:], [model.rules, model.questions])
        for error in (NoDeed, NoName, NoText, NoTable, NoRow, Full):
            self.assertGreater(seen.get(error, 0), 5, error)
        for answer in ("ok", "new", "old", "gone", "none", "no rows", "yes", "no", "within", "not", "open", "tree",
                       "kept"):
            self.assertGreater(seen.get(answer, 0), 0, answer)


if __name__ == "__main__":
    unittest.main()
