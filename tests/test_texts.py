import itertools
import unittest

from things import FAR, LONG, Dice, Refusing, WIDTHS, line, odd_things, thrown_pairs

from askwithin.books import is_row
from askwithin.errors import AskError, NoText
from askwithin.rules import is_rule
from askwithin.terms import is_question
from askwithin.texts import read_question, read_row, read_rule, show_question, show_row, show_rule

# Signs that look like blanks, figures, letters, commas, bars or a colon, or that stand beside them, and ends of lines.
LOOKALIKES = [
    "\t", "\n", "\r", "\r\n", "\v", "\f", "\x00", "\x1c", "\x1f", "\x7f", "\x85", "\xa0", "\u1680", "\u2003", "\u2009",
    "\u200b", "\u2028", "\u2029", "\u202f", "\u3000", "\ufeff", "\u00b2", "\u0663", "\u0967", "\uff11", "\U0001d7d9",
    "\u2460", "\u00bd", "\u2212", "\uff0d", "\u2010", "\u2013", "\uff0b", "\uff41", "\u0430", "\u00aa", "\u1d43",
    "\uff1a", "\u2236", "\ua789", "\uff5c", "\u2223", "\uff0c", "\u201a", "\u3001", "\ud800", "\u0301", "A", "Z", "_",
    ".", ";", "+", "'", '"', "(", ")", "/", "\\", "{", "`", "@", "[",
]


class Reading(Refusing):
    def refused(self, read, *texts):
        for place, text in enumerate(texts):
            with self.assertRaises(AskError, msg=f"text {place} of {read.__name__}") as taken:
                read(text)
            self.assertIs(type(taken.exception), NoText)
            self.assertIsInstance(taken.exception, ValueError)

    def both(self, show, read, thing, text):
        """Shown as the text, and the text read as what was shown."""
        self.assertEqual(self.unchanged(show, thing), text)
        self.assertIs(type(show(thing)), str)
        told = self.unchanged(read, text)
        self.assertEqual(told, thing)
        # Numbers and names are told apart by their kinds, too.
        self.assertEqual(repr(told), repr(thing))

    def no_lookalikes(self, read, text):
        """With a sign put in, at whatever place, or one in the place of another, it is no text of this kind."""
        for place in range(len(text) + 1):
            for sign in LOOKALIKES:
                self.refused(read, text[:place] + sign + text[place:])
                if place < len(text):
                    self.refused(read, text[:place] + sign + text[place + 1:])

    def one_sign_changed(self, show, read, text, signs):
        """With a sign put in, left out or changed: what is read is written as just that, or it is refused."""
        taken = 0
        for place in range(len(text) + 1):
            changed = [text[:place] + sign + text[place:] for sign in signs]
            changed += [text[:place] + sign + text[place + 1:] for sign in signs + [""]]
            for own in changed:
                try:
                    told = read(own)
                except NoText:
                    continue
                self.assertEqual(show(told), own)
                taken += 1
        self.assertGreater(taken, 5)


class TestRow(Reading):
    def test_each_form(self):
        self.both(show_row, read_row, (3, -7, 0), "3 -7 0")
        self.both(show_row, read_row, (0,), "0")
        self.both(show_row, read_row, (-1,), "-1")
        self.both(show_row, read_row, (10, 100, -10, 1, 2, 3), "10 100 -10 1 2 3")

    def test_seventy_figures(self):
        for text in ("9" * 70, "-" + "9" * 70, "1" + "0" * 69, "-1" + "0" * 69, "1" * 61):
            self.both(show_row, read_row, (int(text),), text)
        self.both(show_row, read_row, (FAR, -FAR, 0), "9" * 70 + " -" + "9" * 70 + " 0")
        for text in ("9" * 71, "-" + "9" * 71, "1" + "0" * 70, "-1" + "0" * 70, "0" * 71):
            self.refused(read_row, text, "1 " + text, text + " 1")

    def test_noughts_and_signs_ahead(self):
        self.refused(read_row, "00", "01", "-0", "-01", "-00", "+1", "+0", "--1", "- 1", "-", "1-", "1-1", "0x1", "1_0")
        self.refused(read_row, "1 -0", "1 02", "1 +2", "1 -", "1.0", "1e3", "0b1", "\u22121", "1 2 3 4 5 06")
        self.refused(read_row, "0" + "9" * 69, "0" * 70, "-0" + "9" * 69)

    def test_blanks(self):
        self.refused(read_row, "", " ", "  ", " 1", "1 ", "1  2", " 1 2", "1 2 ", "1 2  ", "1,2", "1, 2", "1; 2")

    def test_how_many(self):
        self.both(show_row, read_row, (1, 1, 1, 1, 1, 1), "1 1 1 1 1 1")
        self.refused(read_row, "1 1 1 1 1 1 1", " ".join(["1"] * 12))

    def test_names_are_no_values(self):
        self.refused(read_row, "x", "1 x", "x 1", "none", ":", "yes", "True", "None", "1 a2")

    def test_signs_that_look_alike(self):
        self.no_lookalikes(read_row, "3 -7 0")

    def test_one_sign_changed(self):
        self.one_sign_changed(show_row, read_row, "30 -7 0", list(" -0159ax+,:|"))

    def test_whatever_is_no_text(self):
        # Of the odd things one is a text of a row: "0".
        odd = [thing for thing in odd_things() if not isinstance(thing, str) or thing != "0"]
        self.refused(read_row, *odd, 1, 0, (1,), (3, -7, 0), [1], ["1"], b"1")

    def test_very_long_texts(self):
        self.refused(read_row, "1" * 10 ** 6, "-" * 10 ** 6, "0" * 10 ** 6, "1 " * 10 ** 6, " " * 10 ** 6, "1" * 5000)
        self.refused(read_row, "1 " * 10 ** 5 + "1", "1 2 " + "9" * 10 ** 6)

    def test_thrown(self):
        dice = Dice(29)
        for k in range(500):
            row = tuple(dice.pick([0, 1, -1, 7, dice.throw(10 ** 6), -FAR, FAR, -dice.throw(10 ** 9)])
                        for place in range(1 + dice.throw(6)))
            self.assertTrue(is_row(row))
            self.both(show_row, read_row, row, " ".join(map(str, row)))


class TestQuestion(Reading):
    def test_the_documents_own(self):
        question = [
            (("x", 7), (line("road", "x", "y"), line("road", "y", 7))), (("x", "x"), (line("town", "x"),)),
        ]
        self.both(show_question, read_question, question, "x 7 : road x y, road y 7 | x x : town x")
        self.both(show_question, read_question, [((), (line("town", 3),))], ": town 3")
        self.both(show_question, read_question, [((), ())], ":")
        self.both(show_question, read_question, [], "none")

    def test_each_form(self):
        self.both(show_question, read_question, [((5,), ())], "5 :")
        self.both(show_question, read_question, [((0, -1, 0, 5), ())], "0 -1 0 5 :")
        self.both(show_question, read_question, [((), ()), ((), ())], ": | :")
        self.both(show_question, read_question, [((1,), ()), ((2,), ()), ((1,), ())], "1 : | 2 : | 1 :")
        self.both(show_question, read_question, [((), ()), ((), (line("a", "b"),)), ((), ())], ": | : a b | :")
        lines = (line("t", "x", 0, -5), line("t", "x", "x", "x"))
        self.both(show_question, read_question, [(("x",), lines)], "x : t x 0 -5, t x x x")

    def test_names_that_read_like_words(self):
        self.both(show_question, read_question, [(("none",), (line("none", "none"),))], "none : none none")
        self.both(show_question, read_question, [(("x",), (line("x", "x"), line("key", "to")))], "x : x x, key to")
        self.both(show_question, read_question, [((), (line("n1", "n1", "n2"),))], ": n1 n1 n2")

    def test_at_the_bounds(self):
        name = "abcdefghij09"
        question = [((name, name, LONG, -LONG), (line(name, name, 1, 2, 3, 4, -LONG),) * 5)] * 3
        own = f"{name} 1 2 3 4 -{'9' * 60}"
        alternative = f"{name} {name} {'9' * 60} -{'9' * 60} : " + ", ".join([f"{name} {own}"] * 5)
        self.both(show_question, read_question, question, " | ".join([alternative] * 3))

    def test_names(self):
        for name in ("abcdefghijkl", "z", "z999", "a0"):
            self.both(show_question, read_question, [((name,), (line(name, name),))], f"{name} : {name} {name}")
        for name in ("abcdefghijklm", "A", "x_", "xY", "1x", "0x", "-x", "x-", "\u00e9", "\u00df", "x'", "", "a.b"):
            self.refused(read_question, f": t {name}", f": {name} x", f"{name} : t {name}", f": t x, u {name}")

    def test_sixty_figures(self):
        for text in ("9" * 60, "-" + "9" * 60, "1" + "0" * 59):
            self.both(show_question, read_question, [((), (line("t", int(text)),))], f": t {text}")
            self.both(show_question, read_question, [((int(text),), ())], f"{text} :")
        for text in ("9" * 61, "-" + "9" * 61, "1" + "0" * 60, "9" * 70, "9" * 71, "0" * 61):
            self.refused(read_question, f": t {text}", f"{text} :", f": t x {text}, t x y", f"1 : | {text} :")

    def test_noughts_and_signs_ahead(self):
        for text in ("00", "01", "-0", "-01", "+1", "+0", "--1", "-", "1-", "0x1", "1_0", "1.0", "+x", "-x"):
            self.refused(read_question, f": t {text}", f"{text} :", f": t x {text}", f"{text} : t x")

    def test_blanks_commas_and_bars(self):
        self.refused(
            read_question, "", " ", " :", ": ", " : ", "x:t x", "x: t x", "x :t x", " x : t x", "x  : t x", "x :  t x",
            "x : t  x", "x : t x ", "x : t x,", "x : t x, ", "x : t x,u x", "x : t x ,u x", "x : t x , u x",
            "x : t x,  u x", "x : , t x", "x : t x, , u x", "x : t x,, u x", ",", "x, : t x", "x : t, x",
            "x y : t x, y",
        )
        self.refused(
            read_question, "|", " | ", ": |", "| :", ":|:", ": |:", ":| :", ":  | :", ": |  :", ": | ", " | :",
            ": | | :", ": |  | :", ": | : | ", ": || :", "x : t x| x : t x", "x : t x |x : t x",
            "x | y : t x y", "x : t x | t x",
        )
        self.refused(
            read_question, "none ", " none", "None", "none :", "none | :", ": | none", "none | none", "none,",
            "nothing", "x", "x y", "1", "1 2", "-1", "0", "t x", "x : t x : t x", "x : : t x", "::", ": :",
            ": : t x", "x :: t x",
        )

    def test_lines(self):
        self.refused(read_question, ": t", ": t x, u", ": 3 x", ": -3 x", ": 3", ": t x, 3 x", ": t x, t")
        self.both(show_question, read_question, [((), (line("t", 1, 2, 3, 4, 5, 6),))], ": t 1 2 3 4 5 6")
        self.refused(read_question, ": t 1 2 3 4 5 6 7", ": t x, u 1 2 3 4 5 6 7")
        self.assertEqual(len(read_question(": " + ", ".join(["t x"] * 5))[0][1]), 5)
        self.refused(read_question, ": " + ", ".join(["t x"] * 6), ": | : " + ", ".join(["t x"] * 6))

    def test_heads(self):
        self.both(show_question, read_question, [((1, 2, 3, 4), ())], "1 2 3 4 :")
        self.refused(read_question, "1 2 3 4 5 :", "x x x x x : t x", "1 2 3 4 5 : | 1 2 3 4 5 :")
        self.refused(read_question, "x :", "x : t y", "x 1 : t y", "y x : t y", "t : t x", "x : t x | y : t x")

    def test_heads_of_unlike_lengths(self):
        self.refused(read_question, ": | 1 :", "1 : | :", "x : t x | x x : t x", "1 : | 1 : | 1 2 :")

    def test_alternatives(self):
        self.assertEqual(read_question(": | : | :"), [((), ())] * 3)
        self.refused(read_question, ": | : | : | :", " | ".join(["x : t x"] * 4))

    def test_one_table_with_two_widths(self):
        self.refused(read_question, ": t x, t x y", ": t x | : t x y", ": t x | : u x | : u x, t 1 2")
        self.both(show_question, read_question, [((), (line("t", "x"), line("u", "x", "y")))], ": t x, u x y")

    def test_signs_that_look_alike(self):
        self.no_lookalikes(read_question, "x 7 : t x 7, u x | x x : u x")
        self.no_lookalikes(read_question, "none")
        self.no_lookalikes(read_question, ":")

    def test_one_sign_changed(self):
        signs = list(" -0159axtu,:|")
        self.one_sign_changed(show_question, read_question, "x 7 : t x 70, u -1 | x x : u x", signs)

    def test_whatever_is_no_text(self):
        question = [(("x",), (line("t", "x"),))]
        self.refused(read_question, *odd_things(), [], [((), ())], ((), ()), question, [":"], 0, b":")

    def test_very_long_texts(self):
        self.refused(
            read_question, ":" * 10 ** 6, ": " * 10 ** 6, "x" * 10 ** 6, "1" * 10 ** 6, " | " * 10 ** 6, ", " * 10 ** 6,
            ": t " + "9" * 10 ** 6, ": t " + "x" * 10 ** 6, ": " + "t " * 10 ** 5 + "x",
            ": " + "t x, " * 10 ** 5 + "t x", ": | " * 10 ** 5 + ":", "1 " * 10 ** 5 + ":",
            "x " * 10 ** 5 + ": t x", ":" + " " * 10 ** 6, "|" * 10 ** 6,
            "none" * 10 ** 5, ": t -" + "0" * 10 ** 6, ": t x, " + "u " * 10 ** 6,
        )

    def test_what_is_read_is_the_askers_own(self):
        told = read_question("x : t x | x : u x")
        told.clear()
        self.assertEqual(read_question("x : t x | x : u x"), [(("x",), (line("t", "x"),)), (("x",), (line("u", "x"),))])
        none = read_question("none")
        none.append(1)
        self.assertEqual(read_question("none"), [])

    def test_thrown(self):
        texts = {}
        for one, other, rules in thrown_pairs(1000):
            for question in (one, other):
                text = show_question(question)
                self.assertEqual(repr(read_question(text)), repr(question))
                self.assertEqual(texts.setdefault(text, question), question)
        self.assertGreater(len(texts), 800)

    def test_short_texts(self):
        """All texts of few signs: those that are read are written so, and they are just these."""
        taken = []
        for length in range(7):
            for signs in itertools.product(" :|a0", repeat=length):
                text = "".join(signs)
                try:
                    question = read_question(text)
                except NoText:
                    continue
                self.assertTrue(is_question(question) and show_question(question) == text)
                taken.append(text)
        wanted = [":", "0 :", ": | :", "0 0 :", ": a 0", ": a a"]
        wanted += [": aa 0", ": aa a", ": a0 0", ": a0 a", ": a aa", ": a a0"]
        self.assertEqual(sorted(taken), sorted(wanted))


class TestRule(Reading):
    def test_each_form(self):
        self.both(show_rule, read_rule, ("key", "road", (0,)), "key road 0")
        self.both(show_rule, read_rule, ("key", "t", (0, 1, 2, 3, 4, 5)), "key t 0 1 2 3 4 5")
        self.both(show_rule, read_rule, ("points", "road", (1,), "town", (0,), 2), "points road 1 to town 0 of 2")
        rule = ("points", "t", (5, 0, 3), "u", (2, 4, 1), 6)
        self.both(show_rule, read_rule, rule, "points t 5 0 3 to u 2 4 1 of 6")
        rule = ("points", "t", (5, 4, 3, 2, 1, 0), "u", (0, 1, 2, 3, 4, 5), 6)
        self.both(show_rule, read_rule, rule, "points t 5 4 3 2 1 0 to u 0 1 2 3 4 5 of 6")

    def test_tables_that_read_like_words(self):
        self.both(show_rule, read_rule, ("points", "to", (0,), "of", (0,), 1), "points to 0 to of 0 of 1")
        self.both(show_rule, read_rule, ("points", "of", (0, 1), "to", (1, 0), 2), "points of 0 1 to to 1 0 of 2")
        self.both(show_rule, read_rule, ("points", "key", (0,), "points", (0,), 1), "points key 0 to points 0 of 1")
        self.both(show_rule, read_rule, ("key", "key", (3,)), "key key 3")
        self.both(show_rule, read_rule, ("key", "points", (3,)), "key points 3")
        self.both(show_rule, read_rule, ("key", "to", (3, 4)), "key to 3 4")

    def test_keys(self):
        self.refused(
            read_rule, "key", "key ", "key road", "key road ", "key 0", "key road x", "key road 6", "key road -1",
            "key road 00", "key road 01", "key road +1", "key road -0", "key road 1 0", "key road 1 1", "key road 0 0",
            "key road 0 2 1", "key road 0 1 2 3 4 5 6", "key road 0 1 2 3 4 5 5", "key road 0,1", "key road 0, 1",
            "key road  0", "key  road 0", " key road 0", "key road 0 ", "key road 0  1", "Key road 0", "keys road 0",
            "key Road 0", "key abcdefghijklm 0", "key 1a 0", "road 0", "key road town 0", "key road 10",
            "key road 0 of 1",
        )

    def test_pointings(self):
        self.refused(
            read_rule, "points", "points road", "points road 1", "points road 1 to", "points road 1 to town",
            "points road 1 to town 0", "points road 1 to town 0 of", "points road 1 to town 0 of ",
            "points road to town of 2", "points road 1 town 0 of 2", "points road 1 to town 0 2",
            "points 1 to town 0 of 2",
            "points road 1 to 0 of 2", "points road 1 of town 0 to 2", "points road 1 to town 0 of 2 ",
            " points road 1 to town 0 of 2", "points  road 1 to town 0 of 2", "points road  1 to town 0 of 2",
            "points road 1  to town 0 of 2", "points road 1 to  town 0 of 2", "points road 1 to town  0 of 2",
            "points road 1 to town 0  of 2", "points road 1 to town 0 of  2", "point road 1 to town 0 of 2",
            "points Road 1 to town 0 of 2", "points road 1 to Town 0 of 2", "points road 1 To town 0 of 2",
            "points road 1 to town 0 Of 2", "points road 1 to town 0 of 2 3", "points road 1 to town 0 of x",
            "points road x to town 0 of 2", "points road 1 to town x of 2", "key road 1 to town 0 of 2",
        )

    def test_unlike_counts(self):
        self.refused(
            read_rule, "points t 0 1 to u 0 of 3", "points t 0 to u 0 1 of 3", "points t 0 1 2 to u 0 of 3",
            "points t 0 to u 0 1 2 of 3", "points t to u 0 1 of 3", "points t 0 1 to u of 3", "points t to u of 3",
        )

    def test_columns(self):
        self.refused(
            read_rule, "points t 6 to u 0 of 6", "points t -1 to u 0 of 6", "points t 0 to u -1 of 6",
            "points t 0 to u 6 of 6", "points t 0 0 to u 0 1 of 6", "points t 0 1 to u 1 1 of 6",
            "points t 00 to u 0 of 6", "points t 0 to u 01 of 6", "points t +0 to u 0 of 6", "points t 10 to u 0 of 6",
            "points t 0 1 2 3 4 5 0 to u 0 1 2 3 4 5 0 of 6", "points t 0 1 2 3 4 5 6 to u 0 1 2 3 4 5 6 of 7",
        )
        # Unlike those of a key they may fall.
        self.assertEqual(read_rule("points t 1 0 to u 5 3 of 6"), ("points", "t", (1, 0), "u", (5, 3), 6))

    def test_widths(self):
        for width in range(1, 7):
            rule = ("points", "t", (5,), "u", (width - 1,), width)
            self.both(show_rule, read_rule, rule, f"points t 5 to u {width - 1} of {width}")
            self.refused(read_rule, f"points t 5 to u {width} of {width}")
        self.refused(
            read_rule, "points t 0 to u 0 of 0", "points t 0 to u 0 of 7", "points t 0 to u 0 of -1",
            "points t 0 to u 0 of 06", "points t 0 to u 0 of +6", "points t 0 to u 0 of 10", "points t 0 to u 6 of 7",
            "points t 0 1 to u 0 2 of 2",
        )

    def test_both_tables_the_same(self):
        self.both(show_rule, read_rule, ("points", "t", (1,), "t", (0,), 2), "points t 1 to t 0 of 2")
        self.refused(read_rule, "points t 2 to t 0 of 2", "points t 5 to t 0 of 5", "points t 1 2 to t 0 1 of 2")

    def test_signs_that_look_alike(self):
        self.no_lookalikes(read_rule, "key t 0 1")
        self.no_lookalikes(read_rule, "points t 5 to u 0 of 6")

    def test_one_sign_changed(self):
        signs = list(" -01256axto,:")
        self.one_sign_changed(show_rule, read_rule, "key to 1 3", signs)
        self.one_sign_changed(show_rule, read_rule, "points to 1 5 to of 0 3 of 5", signs)

    def test_whatever_is_no_text(self):
        self.refused(read_rule, *odd_things(), ("key", "t", (0,)), ["key", "t", "0"], ("key t 0",), 0, b"key t 0")

    def test_very_long_texts(self):
        self.refused(
            read_rule, "key " * 10 ** 6, "key t " + "0 " * 10 ** 6, "key t " + "0" * 10 ** 6,
            "key " + "t" * 10 ** 6 + " 0",
            "points t " + "0 " * 10 ** 5 + "to u " + "0 " * 10 ** 5 + "of 1", "points" * 10 ** 5, " " * 10 ** 6,
            "points t 0 to u 0 of " + "1" * 10 ** 6, "points " * 10 ** 6, "key t " + "9" * 5000,
        )

    def test_thrown(self):
        dice = Dice(31)
        for k in range(1000):
            rule = dice.rule(WIDTHS + [("to", 6), ("of", 5), ("key", 4)])
            self.assertTrue(is_rule(rule))
            self.assertEqual(repr(read_rule(show_rule(rule))), repr(rule))


class TestOthers(Reading):
    def test_texts_of_another_kind(self):
        self.refused(read_row, "key t 0", ": t 1", "none")
        self.refused(read_question, "key t 0", "3 -7 0", "points t 1 to t 0 of 2")
        self.refused(read_rule, "none", ":", "3 -7 0", ": key t 0", "x : t x")


if __name__ == "__main__":
    unittest.main()
