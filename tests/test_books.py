"""Books: which rows are refused, what is read of the others, and what is shown."""

import itertools
import random
import re
import unittest

from pricecover.books import read_book, shown_book
from pricecover.errors import BadRow

KEPT = ("add", "sub", "mul", "neg", "any", "var", "put", "load", "out")
SIGNS = [chr(code) for code in range(32, 127)]

# Another way than the program's: one pattern for each form of row, as [11] tells them.
NAME = "(?!(?:" + "|".join(KEPT) + ")(?![a-z]))[a-z]{1,8}(?![a-z])"
NUMBER = "(?:0|-?[1-9][0-9]{0,59})"
PRICE = "[1-9][0-9]{0,5}"
WORD = f"(?:{NUMBER}|{NAME}|add|sub|mul|neg|any|var)"
BOX = "(?:out|t[123])"
FROM = "(?:out|t[123]|h[1-9])"
DEED = (f"(?:put {BOX} (?:{NUMBER}|n[1-9])|load {BOX} v[1-9]|"
        f"(?:add|sub|mul) {BOX} {FROM} {FROM}|neg {BOX} {FROM})")
ROW = re.compile(f"kind {NAME}|rule {NAME} {NAME} {PRICE} = {WORD}(?: {WORD}){{0,11}}|does {NAME} {DEED}")

SMALL = """kind reg
kind imm

rule const imm 1 = any
does const put out n1
does lea load out v1
rule move reg 2 = imm
rule lea reg 3 = var
rule sum reg 4 = add reg reg

does sum add out h1 h2
rule twosub reg 7 = sub sub reg reg -12
does twosub put t1 -12
does twosub sub t2 h1 h2
does twosub sub out t2 t1
does move put t3 0
does move add out t3 h1
"""

SMALL_BOOK = (
    ("reg", "imm"),
    (
        ("const", "imm", 1, ("any",), (("put", "out", "n1"),)),
        ("move", "reg", 2, ("imm",), (("put", "t3", 0), ("add", "out", "t3", "h1"))),
        ("lea", "reg", 3, ("var",), (("load", "out", "v1"),)),
        ("sum", "reg", 4, ("add", "reg", "reg"), (("add", "out", "h1", "h2"),)),
        ("twosub", "reg", 7, ("sub", "sub", "reg", "reg", -12),
         (("put", "t1", -12), ("sub", "t2", "h1", "h2"), ("sub", "out", "t2", "t1"))),
    ),
)

SMALL_SHOWN = """kind reg
kind imm
rule const imm 1 = any
does const put out n1
rule move reg 2 = imm
does move put t3 0
does move add out t3 h1
rule lea reg 3 = var
does lea load out v1
rule sum reg 4 = add reg reg
does sum add out h1 h2
rule twosub reg 7 = sub sub reg reg -12
does twosub put t1 -12
does twosub sub t2 h1 h2
does twosub sub out t2 t1"""


def kinds_within(thing):
    """The kinds of all values of a book, tuples within it told by their parts."""
    if type(thing) is tuple:
        return tuple(kinds_within(part) for part in thing)
    return type(thing)


class BookCase(unittest.TestCase):
    def assert_read(self, text, book):
        with self.subTest(text=text):
            told = read_book(text)
            self.assertEqual(told, book)
            self.assertEqual(kinds_within(told), kinds_within(book))

    def assert_bad_row(self, text, row):
        with self.subTest(text=text):
            with self.assertRaises(BadRow) as refused:
                read_book(text)
            self.assertEqual(refused.exception.row, row)
            self.assertIs(type(refused.exception.row), int)

    def assert_row_as_the_pattern_says(self, row, behind=""):
        """A row alone, with what makes it no row of a nameless rule behind it."""
        if ROW.fullmatch(row) or row == "":
            with self.subTest(row=row):
                self.assertIs(type(read_book(row + behind)), tuple)
        else:
            self.assert_bad_row(row + behind, 1)


class Rows(BookCase):
    def test_ordinary(self):
        self.assert_read(SMALL, SMALL_BOOK)

    def test_nothing(self):
        for text in ("", "\n", "\n\n", "\n" * 4000):
            self.assert_read(text, ((), ()))

    def test_rows_without_signs(self):
        one = (("reg",), (("c", "reg", 1, ("any",), (("put", "out", "n1"),)),))
        rows = ["kind reg", "rule c reg 1 = any", "does c put out n1"]
        for gaps in itertools.product(range(3), repeat=4):
            text = "\n" * gaps[0] + rows[0] + "\n" * (1 + gaps[1]) + rows[1] + "\n" * (1 + gaps[2]) + rows[2]
            self.assert_read(text + "\n" * gaps[3], one)

    def test_a_row_of_blanks_is_not_without_signs(self):
        for many in (1, 2, 5):
            self.assert_bad_row(" " * many, 1)
            self.assert_bad_row("kind reg\n" + " " * many + "\nkind imm", 2)
            self.assert_bad_row("kind reg\n\n" + " " * many, 3)

    def test_blanks_ahead_behind_and_doubled(self):
        for row in ("kind reg", "rule c reg 1 = any", "rule c reg 1 = add reg 4", "does c put out n1",
                    "does c add out h1 h2", "does c neg t1 out", "does c load out v1"):
            rest = "\nrule c reg 1 = any"
            self.assertIs(type(read_book(row + rest)), tuple)
            for text in (" " + row, row + " ", "  " + row, row + "  "):
                self.assert_bad_row(text + rest, 1)
            for place in [place for place, sign in enumerate(row) if sign == " "]:
                self.assert_bad_row(row[:place] + " " + row[place:] + rest, 1)
                self.assert_row_as_the_pattern_says(row[:place] + row[place + 1:], rest)
                for gap in ("\t", "_", ",", "  ", "\r", "\v", "\f", "\u00a0", "\u2028"):
                    self.assert_bad_row(row[:place] + gap + row[place + 1:] + rest, 1)

    def test_a_line_end_within_a_row(self):
        self.assert_bad_row("kind\nreg", 1)
        self.assert_bad_row("rule c reg\n1 = any", 1)
        self.assert_bad_row("rule c reg 1 = add\n5 6", 2)
        self.assert_bad_row("rule c reg 1 = any\ndoes c put out\nn1", 2)

    def test_a_word_more_or_fewer(self):
        rest = "\nrule c reg 1 = any"
        for row in ("kind reg", "does c put out n1", "does c put out 5", "does c load out v1", "does c add out h1 h2",
                    "does c sub t1 h1 out", "does c mul t2 t1 t1", "does c neg t3 h9"):
            words = row.split(" ")
            for place in range(len(words)):
                self.assert_bad_row(" ".join(words[:place] + words[place + 1:]) + rest, 1)
                self.assert_bad_row(" ".join(words[:place + 1] + words[place:]) + rest, 1)
            for more in ("h1", "out", "5", "a", "="):
                self.assert_bad_row(row + " " + more + rest, 1)

    def test_rules_with_a_word_more_or_fewer_ahead_of_the_shape(self):
        words = "rule c reg 1 = any".split(" ")
        for place in range(len(words)):
            self.assert_bad_row(" ".join(words[:place] + words[place + 1:]), 1)
        for place in range(5):
            self.assert_bad_row(" ".join(words[:place + 1] + words[place:]), 1)

    def test_another_first_word(self):
        for word in ("kinds", "Kind", "KIND", "knd", "rule", "does", "", "#", "reg", "add", "kind:", "-", "1"):
            self.assert_bad_row(word + " reg", 1)
        for word in ("rules", "Rule", "kind", "does", "", "rul", "rule:"):
            self.assert_bad_row(word + " c reg 1 = any", 1)
        for word in ("do", "Does", "kind", "rule", "", "doe", "doess"):
            self.assert_bad_row("rule c reg 1 = any\n" + word + " c put out n1", 2)
        for text in ("kind", "rule", "does", "reg", "=", "# kind reg", "kind reg # here"):
            self.assert_bad_row(text, 1)

    def test_names(self):
        for name in ("a", "z", "abcdefgh", "kind", "rule", "does", "adds", "outs", "h", "t", "any" * 2):
            self.assert_read(f"kind {name}", ((name,), ()))
            self.assert_read(f"rule {name} k 1 = 5\ndoes {name} put out 5",
                             ((), ((name, "k", 1, (5,), (("put", "out", 5),)),)))
            self.assert_read(f"rule r {name} 1 = 5", ((), (("r", name, 1, (5,), ()),)))
            self.assert_read(f"rule r k 1 = neg {name}", ((), (("r", "k", 1, ("neg", name), ()),)))

    def test_no_names(self):
        for name in ("abcdefghi", "A", "Reg", "rEg", "r1", "1", "h1", "n1", "v1", "t1", "-", "a-b", "a_b", "", "a.",
                     "reg,", "\u00e4", "\u0430") + KEPT:
            self.assert_bad_row(f"kind {name}", 1)
            self.assert_bad_row(f"rule {name} k 1 = 5", 1)
            self.assert_bad_row(f"rule r {name} 1 = 5", 1)
            self.assert_bad_row(f"rule r k 1 = 5\ndoes {name} put out 5", 2)
            if name not in KEPT[:6] + ("1",):
                self.assert_bad_row(f"rule r k 1 = neg {name}", 1)

    def test_each_sign_in_a_name(self):
        for sign in SIGNS:
            self.assert_row_as_the_pattern_says(f"kind a{sign}b")
            self.assert_row_as_the_pattern_says(f"rule a{sign}b k 1 = 5")
            self.assert_row_as_the_pattern_says(f"rule r a{sign}b 1 = 5")
            self.assert_row_as_the_pattern_says(f"rule r k 1 = a{sign}b")

    def test_prices(self):
        for price in ("1", "2", "9", "10", "100000", "999998", "999999"):
            self.assert_read(f"rule r k {price} = 5", ((), (("r", "k", int(price), (5,), ()),)))
        for price in ("0", "-0", "-1", "+1", "01", "00", "0999999", "1000000", "1000001", "9999999", "9" * 60, "9" * 61,
                      "-5", "", "a", "any", "1.0", "1_0", "1e3", "n1", "=", "-", "--1", "\u0661"):
            self.assert_bad_row(f"rule r k {price} = 5", 1)

    def test_the_sign_between_price_and_shape(self):
        for sign in ("", "==", ":=", "is", "-", "5", "any", ":", "= ="):
            self.assert_bad_row(f"rule r k 1 {sign} 5", 1)
        for text in ("rule r k 1 5", "rule r k 1 5 =", "rule r k = 1 5", "rule r = k 1 5", "rule r k 1=5",
                     "rule r k 1 =5", "rule r k 1= 5", "rule r k 1 = 5 = 6"):
            self.assert_bad_row(text, 1)

    def test_how_many_words(self):
        for many in range(1, 13):
            for words in (("5",) * many, ("add",) * many, ("reg",) * many, ("neg",) * (many - 1) + ("any",)):
                shape = tuple(5 if word == "5" else word for word in words)
                self.assert_read("rule r k 1 = " + " ".join(words), ((), (("r", "k", 1, shape, ()),)))
        for many in (13, 14, 25):
            for word in ("5", "add", "reg", "any"):
                self.assert_bad_row("rule r k 1 = " + " ".join((word,) * many), 1)
        for text in ("rule r k 1 =", "rule r k 1 = ", "rule r k 1"):
            self.assert_bad_row(text, 1)

    def test_the_words_of_shapes(self):
        for word, read in (("add", "add"), ("sub", "sub"), ("mul", "mul"), ("neg", "neg"), ("any", "any"),
                           ("var", "var"), ("reg", "reg"), ("0", 0), ("7", 7), ("-7", -7), ("1" * 60, int("1" * 60)),
                           ("-" + "9" * 60, 1 - 10 ** 60), ("rule", "rule"), ("kind", "kind")):
            for place in range(3):
                words = ["any", "any"]
                shape = ["any", "any"]
                words.insert(place, word)
                shape.insert(place, read)
                self.assert_read("rule r k 1 = " + " ".join(words), ((), (("r", "k", 1, tuple(shape), ()),)))
        for word in ("put", "load", "out", "t1", "h1", "n1", "v1", "Any", "ANY", "=", "-0", "00", "01", "-01", "+1",
                     "1" * 61, "-" + "1" * 61, "1.5", "abcdefghi", "reg1", "(reg)", "", "-", "\u0661"):
            for place in range(3):
                words = ["any", "any"]
                words.insert(place, word)
                self.assert_bad_row("rule r k 1 = " + " ".join(words), 1)

    def test_whether_words_are_one_shape_is_not_looked_at(self):
        for shape in (("add",), ("any", "any"), ("neg", "neg"), ("x", "y", "z"), ("mul", "var"), ("var", "add", 0)):
            text = " ".join(str(word) for word in shape)
            self.assert_read("rule r k 1 = " + text, ((), (("r", "k", 1, shape, ()),)))


class Deeds(BookCase):
    SOURCES = ("out", "t0", "t1", "t2", "t3", "t4", "t", "h0", "h1", "h2", "h9", "h10", "h", "h01", "H1", "n0", "n1",
               "n9", "n10", "n", "v0", "v1", "v9", "v10", "v", "0", "7", "-7", "-0", "07", "+7", "9" * 60, "9" * 61,
               "-" + "9" * 60, "any", "var", "reg", "a", "", "h-1", "o1", "out1", "ha", "1h", "h\u0661")
    BOXES = ("out", "t1", "t2", "t3", "t0", "t4", "t", "t10", "h1", "n1", "v1", "0", "1", "Out", "T1", "reg", "",
             "out1")

    def test_each_deed_with_each_box_and_each_source(self):
        for deed in ("put", "load", "neg", "add", "kind", "Put", ""):
            for box, source in itertools.product(self.BOXES, self.SOURCES):
                self.assert_row_as_the_pattern_says(f"does r {deed} {box} {source}", "\nrule r k 1 = 5")

    def test_each_sign_behind_a_letter(self):
        for letter, sign in itertools.product("hnvt", SIGNS):
            for deed in ("put out {}", "load out {}", "neg out {}", "add out h1 {}", "put {} 5", "neg {} h1"):
                self.assert_row_as_the_pattern_says("does r " + deed.format(letter + sign), "\nrule r k 1 = 5")

    def test_each_deed_with_two_sources(self):
        for deed in ("add", "sub", "mul", "neg", "put", "load", "div"):
            for one, other in itertools.product(self.SOURCES, repeat=2):
                self.assert_row_as_the_pattern_says(f"does r {deed} t2 {one} {other}", "\nrule r k 1 = 5")

    def test_what_is_read(self):
        for deed, read in (
            ("put out 0", ("put", "out", 0)),
            ("put t1 -5", ("put", "t1", -5)),
            ("put t2 " + "9" * 60, ("put", "t2", 10 ** 60 - 1)),
            ("put t3 n9", ("put", "t3", "n9")),
            ("load out v1", ("load", "out", "v1")),
            ("load t3 v9", ("load", "t3", "v9")),
            ("add t1 h1 h2", ("add", "t1", "h1", "h2")),
            ("sub out out t3", ("sub", "out", "out", "t3")),
            ("mul t2 t2 t2", ("mul", "t2", "t2", "t2")),
            ("neg out h9", ("neg", "out", "h9")),
        ):
            self.assert_read("rule r k 1 = 5\ndoes r " + deed, ((), (("r", "k", 1, (5,), (read,)),)))

    def test_deeds_that_the_shape_has_nothing_for_are_read_too(self):
        self.assert_read("rule r k 1 = 5\ndoes r add t1 h8 t2\ndoes r load out v3",
                         ((), (("r", "k", 1, (5,), (("add", "t1", "h8", "t2"), ("load", "out", "v3"))),)))


class FirstBadRow(BookCase):
    def test_counted_from_one_over_all_rows(self):
        self.assert_bad_row("x", 1)
        self.assert_bad_row("kind a\nx", 2)
        self.assert_bad_row("\nx", 2)
        self.assert_bad_row("\n\n\nkind a\n\nx\n\n", 6)
        self.assert_bad_row("\n" * 3000 + "x", 3001)
        self.assert_bad_row(SMALL + "x", 18)

    def test_the_first_of_several(self):
        self.assert_bad_row("x\ny", 1)
        self.assert_bad_row("kind a\nkind A\nrule a b 0 = 5\ndoes a put out", 2)
        self.assert_bad_row("kind a\nrule a b 0 = 5\nkind A", 2)
        self.assert_bad_row("kind a\nrule a b 1 = 5\ndoes a put out\nkind A", 3)

    def test_each_row_of_a_book_put_out_of_form(self):
        rows = SMALL.split("\n")
        for place, row in enumerate(rows):
            self.assert_bad_row("\n".join(rows[:place] + [row + " "] + rows[place + 1:]), place + 1)

    def test_deeds_of_a_name_that_no_rule_has(self):
        self.assert_bad_row("does r put out 5", 1)
        self.assert_bad_row("kind r\ndoes r put out 5", 2)
        self.assert_bad_row("rule r k 1 = 5\ndoes k put out 5", 2)
        self.assert_bad_row("rule r k 1 = 5\ndoes r put out 5\n\ndoes s put out 5\ndoes t put out 5", 4)
        self.assert_bad_row("does t put out 5\ndoes s put out 5\nrule s k 1 = 5", 1)
        self.assert_bad_row("does s put out 5\ndoes t put out 5\nrule s k 1 = 5", 2)
        self.assert_bad_row("rule re k 1 = 5\ndoes r put out 5", 2)

    def test_a_row_out_of_form_is_refused_ahead_of_them(self):
        self.assert_bad_row("does r put out 5\nkind A", 2)
        self.assert_bad_row("does r put out 5\nrule s k 1 = 5\n\nkind a \nx", 4)
        self.assert_bad_row("kind A\ndoes r put out 5", 1)
        self.assert_bad_row("does r put out 5\nrule r k 0 = 5", 2)
        self.assert_bad_row("does s put out 5\ndoes r put out", 2)


class Reading(BookCase):
    def test_kinds_and_rules_in_order_told_twice_too(self):
        self.assert_read("kind b\nkind a\nkind b\nkind c\nkind a", (("b", "a", "b", "c", "a"), ()))
        self.assert_read("rule b k 2 = 1\nkind z\nrule a k 1 = 2\nkind y\nrule b j 3 = 4",
                         (("z", "y"), (("b", "k", 2, (1,), ()), ("a", "k", 1, (2,), ()), ("b", "j", 3, (4,), ()))))

    def test_names_of_rules_and_kinds_are_not_looked_at(self):
        self.assert_read("rule a a 1 = a\nkind a", (("a",), (("a", "a", 1, ("a",), ()),)))
        self.assert_read("rule a none 1 = none", ((), (("a", "none", 1, ("none",), ()),)))

    def test_deeds_ahead_of_their_rule_and_behind_it(self):
        book = ((), (("r", "k", 1, (5,), (("put", "t1", 1), ("put", "t2", 2), ("put", "out", 3))),))
        rows = ["does r put t1 1", "does r put t2 2", "does r put out 3"]
        for place in range(4):
            self.assert_read("\n".join(rows[:place] + ["rule r k 1 = 5"] + rows[place:]), book)

    def test_deeds_of_several_rules_among_one_another(self):
        self.assert_read(
            "does b put t1 1\nrule a k 1 = 5\ndoes a put t1 2\ndoes b put out 3\nrule b k 1 = 5\ndoes a put out 4",
            ((), (("a", "k", 1, (5,), (("put", "t1", 2), ("put", "out", 4))),
                  ("b", "k", 1, (5,), (("put", "t1", 1), ("put", "out", 3))))))

    def test_like_deeds_stay_each(self):
        self.assert_read("rule a k 1 = 5\ndoes a put t1 2\ndoes a put t1 2",
                         ((), (("a", "k", 1, (5,), (("put", "t1", 2), ("put", "t1", 2))),)))

    def test_of_rules_of_one_name_the_first_has_the_deeds(self):
        first, second = "rule r k 1 = 5", "rule r j 2 = 6"
        deeds = ["does r put t1 1", "does r put out 2"]
        read = (("put", "t1", 1), ("put", "out", 2))
        book = ((), (("r", "k", 1, (5,), read), ("r", "j", 2, (6,), ())))
        for rows in (deeds + [first, second], [first] + deeds + [second], [first, second] + deeds,
                     [first, deeds[0], second, deeds[1]], [deeds[0], first, second, deeds[1]]):
            self.assert_read("\n".join(rows), book)
        self.assert_read("\n".join([first, deeds[0], first, deeds[1], first]),
                         ((), (("r", "k", 1, (5,), read), ("r", "k", 1, (5,), ()), ("r", "k", 1, (5,), ()))))

    def test_rules_without_deeds(self):
        self.assert_read("rule r k 1 = 5\nrule s k 1 = 5\ndoes s put out 5",
                         ((), (("r", "k", 1, (5,), ()), ("s", "k", 1, (5,), (("put", "out", 5),)))))

    def test_nothing_is_kept_between_calls(self):
        self.assert_read(SMALL, SMALL_BOOK)
        self.assert_read("rule sum k 1 = 5", ((), (("sum", "k", 1, (5,), ()),)))
        self.assert_bad_row("does sum add out h1 h2", 1)
        self.assert_read(SMALL, SMALL_BOOK)


class Showing(BookCase):
    def assert_shown(self, book, text):
        with self.subTest(book=book):
            told = shown_book(book)
            self.assertEqual(told, text)
            self.assertIs(type(told), str)
            self.assert_read(told, book)

    def test_ordinary(self):
        self.assert_shown(SMALL_BOOK, SMALL_SHOWN)

    def test_nothing(self):
        self.assert_shown(((), ()), "")

    def test_kinds_or_rules_alone(self):
        self.assert_shown((("b", "a", "b"), ()), "kind b\nkind a\nkind b")
        self.assert_shown(((), (("r", "k", 999999, (5,), ()),)), "rule r k 999999 = 5")

    def test_numbers(self):
        self.assert_shown(((), (("r", "k", 1, ("add", -5, 10 ** 60 - 1), (("put", "out", -(10 ** 60 - 1)),)),)),
                          "rule r k 1 = add -5 " + "9" * 60 + "\ndoes r put out -" + "9" * 60)

    def test_rules_of_one_name(self):
        self.assert_shown(((), (("r", "k", 1, (5,), (("put", "out", 5),)), ("r", "k", 1, (5,), ()))),
                          "rule r k 1 = 5\ndoes r put out 5\nrule r k 1 = 5")

    def test_what_is_shown_is_read_as_the_book_again(self):
        source = random.Random(31)
        for _ in range(300):
            text = some_text(source)
            book = read_book(text)
            shown = shown_book(book)
            self.assert_read(shown, book)
            self.assertEqual(sorted(shown.split("\n")), sorted(row for row in text.split("\n") if row) or [""])
            self.assertEqual(shown_book(read_book(shown)), shown)

    def test_as_great_as_allowed(self):
        kinds = tuple("k" + letter for letter in "abcdefgh")
        rules = tuple(("r" + one + other, kinds[place % 8], 999999, ("add",) * 5 + ("any",) * 6 + (place,),
                       (("add", "t1", "h1", "h2"),) * 6)
                      for place, (one, other) in enumerate(itertools.product("abcdefgh", "abcde")))
        self.assertEqual(len(rules), 40)
        self.assertEqual(read_book(shown_book((kinds, rules))), (kinds, rules))


def some_text(source):
    """A text of rows, all in form and every deed of a rule's name."""
    names = source.sample(("a", "b", "sum", "kind", "does", "abcdefgh"), 4)
    rows = []
    for _ in range(source.randint(0, 8)):
        rows.append("kind " + source.choice(names))
    told = []
    for _ in range(source.randint(0, 8)):
        told.append(source.choice(names))
        words = source.choices(("add", "sub", "mul", "neg", "any", "var", "a", "5", "-6", "0"), k=source.randint(1, 12))
        rows.append(f"rule {told[-1]} {source.choice(names)} {source.randint(1, 999999)} = " + " ".join(words))
    for _ in range(source.randint(0, 12) if told else 0):
        box = source.choice(("out", "t1", "t2", "t3"))
        sources = source.choices(("out", "t1", "t2", "t3", "h1", "h9"), k=2)
        deed = source.choice((f"put {box} {source.randint(-9, 9)}", f"put {box} n2", f"load {box} v3",
                              f"add {box} " + " ".join(sources), f"mul {box} " + " ".join(sources),
                              f"sub {box} " + " ".join(sources), f"neg {box} {sources[0]}"))
        rows.append(f"does {source.choice(told)} {deed}")
    source.shuffle(rows)
    for _ in range(source.randint(0, 3)):
        rows.insert(source.randint(0, len(rows)), "")
    return "\n".join(rows)


class ByChance(BookCase):
    def first_bad(self, text):
        rows = text.split("\n")
        for number, row in enumerate(rows, start=1):
            if row and not ROW.fullmatch(row):
                return number
        told = [row.split(" ")[1] for row in rows if row.startswith("rule ")]
        for number, row in enumerate(rows, start=1):
            if row.startswith("does ") and row.split(" ")[1] not in told:
                return number
        return None

    def test_texts_with_a_change_somewhere(self):
        source = random.Random(32)
        ends = {True: 0, False: 0}
        for _ in range(3000):
            text = some_text(source)
            for _ in range(source.randint(1, 2)):
                place = source.randint(0, len(text))
                behind = place + source.randint(0, 1)
                text = text[:place] + source.choice(("", " ", "\n", "a", "0", "1", "-", "=", "z")) + text[behind:]
            row = self.first_bad(text)
            ends[row is None] += 1
            if row is None:
                self.assertIs(type(read_book(text)), tuple)
            else:
                self.assert_bad_row(text, row)
        self.assertGreater(min(ends.values()), 300)


if __name__ == "__main__":
    unittest.main()
