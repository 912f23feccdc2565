"""The whole: texts answered, each refusal in its order, and what the document promises over all stages together."""

import copy
import itertools
import random
import unittest

from plain import (TEXT, all_covers, cover_tree, need_by_all_orders, plain_choices, some_dense_book, some_rich_book,
                   some_term)
from pricecover.books import read_book, shown_book
from pricecover.covers import cheapest, cover_price
from pricecover.errors import BadDeed, BadRow, BadShape, NoCover, NoName, NoTerm, NoValue, Twice, Unsound
from pricecover.forms import form_of, parting
from pricecover.machine import run
from pricecover.prices import is_table, prices
from pricecover.rows import rows_of
from pricecover.sound import sound
from pricecover.terms import shown_term, worth
from pricecover.tight import need, tight_rows
from pricecover.whole import answer

GOOD = """kind reg
kind imm
rule name reg 3 = var
does name load out v1
rule const imm 1 = any
does const put out n1
rule sum reg 4 = add reg reg
does sum add out h1 h2"""

# Rows that make the book a bad one, in the order in which they stand and are refused.
TWO_KINDS = "kind imm"
NO_ROW = "rule none reg 0 = any"
NO_RULE = "does nobody put out 1"
TWO_NAMES = "rule sum reg 4 = add reg reg"
NO_KIND = "rule lost area 1 = any"
NO_SHAPE = "rule bent reg 1 = add reg"
NO_DEED = "rule idle reg 1 = any"
NOT_SOUND = "rule wrong reg 1 = neg reg\ndoes wrong add out h1 h1"


class WholeCase(unittest.TestCase):
    def assert_answer(self, text, kind, values, told, book=TEXT):
        with self.subTest(text=text, kind=kind):
            kept = copy.deepcopy(values)
            found = answer(book, text, kind, values)
            self.assertEqual(found, told)
            self.assertEqual([type(part) for part in (found,) + found], [tuple, int, int, int])
            self.assertEqual(values, kept)

    def assert_refused(self, refusal, kept, book=GOOD, text="add a b", kind="reg", values=None):
        values = {"a": 1, "b": 2} if values is None else values
        with self.subTest(refusal=refusal, book=book, text=text, kind=kind, values=values):
            before = copy.deepcopy(values)
            with self.assertRaises(refusal) as caught:
                answer(book, text, kind, values)
            self.assertIs(type(caught.exception), refusal)
            for name, value in kept.items():
                self.assertEqual(getattr(caught.exception, name), value)
            self.assertEqual(values, before)


class Answers(WholeCase):
    def test_the_three_numbers(self):
        self.assert_answer("5", "imm", {}, (5, 1, 1))
        self.assert_answer("5", "reg", {}, (5, 3, 3))
        self.assert_answer("7", "reg", {}, (7, 1, 1))
        self.assert_answer("a", "reg", {"a": -8}, (-8, 3, 1))
        self.assert_answer("add a b", "reg", {"a": 3, "b": 4}, (7, 10, 3))
        self.assert_answer("sub a b", "reg", {"a": 3, "b": 4}, (-1, 11, 5))
        self.assert_answer("add a sub b c", "reg", {"a": 3, "b": 4, "c": 9}, (-2, 18, 5))
        self.assert_answer("add sub a b sub c d", "reg", {"a": 1, "b": 20, "c": 300, "d": 4000}, (-3719, 26, 6))
        self.assert_answer("mul add a 5 neg b", "reg", {"a": 2, "b": 3}, (-21, 23, 5))
        self.assert_answer("mul 2 a", "reg", {"a": 21}, (42, 4, 2))
        self.assert_answer("add 1 sub 2 a", "reg", {"a": 10}, (-7, 9, 2))

    def test_the_cheapest_cover_counts(self):
        # Two rows that cost the same, and one that is dearer but needs fewer boxes.
        text = "kind reg\n" \
               "rule dear reg 5 = any\ndoes dear put out n1\n" \
               "rule cheap reg 4 = any\ndoes cheap put t1 0\ndoes cheap put out n1\n" \
               "rule also reg 4 = any\ndoes also put t1 0\ndoes also put t2 0\ndoes also put out n1"
        self.assert_answer("3", "reg", {}, (3, 4, 2), text)

    def test_great_numbers(self):
        great = 10 ** 60 - 1
        self.assert_answer("mul a b", "reg", {"a": great, "b": -great}, (-great * great, 12, 3))
        self.assert_answer("-" + "9" * 60, "imm", {}, (-great, 1, 1))
        text = " ".join(["mul"] * 45 + ["a"] * 46)
        self.assert_answer(text, "reg", {"a": great}, (great ** 46, 45 * 6 + 46 * 3, 3))

    def test_values_of_other_names_do_not_matter(self):
        self.assert_answer("add a a", "reg", {"z": 1, "a": 2, "b": 3}, (4, 10, 3))

    def test_a_name_that_lacks_but_is_not_loaded(self):
        self.assert_answer("mul a 0", "reg", {}, (0, 1, 1))
        self.assert_answer("add mul a 0 b", "reg", {"b": 6}, (6, 8, 3))
        # The cheapest cover loads it, though another one would not.
        dear = TEXT.replace("rule noname reg 1", "rule noname reg 99")
        self.assert_refused(NoValue, {"word": "a"}, dear, "mul a 0", values={})
        self.assert_answer("mul a 0", "reg", {"a": 5}, (0, 12, 3), dear)

    def test_a_hole_that_is_not_read_is_gone_through_all_the_same(self):
        self.assert_refused(NoValue, {"word": "a"}, TEXT, "mul 0 a", values={})
        self.assert_answer("mul 0 a", "reg", {"a": 5}, (0, 4, 2))

    def test_rows_without_signs_and_does_rows_ahead(self):
        text = "\n\ndoes name load out v1\nkind reg\n\nrule name reg 3 = var\n"
        self.assert_answer("a", "reg", {"a": 5}, (5, 3, 1), text)

    def test_what_is_told_hangs_on_nothing_asked_before(self):
        values = {"a": 3, "b": 4}
        for _ in range(2):
            self.assert_answer("add a b", "reg", values, (7, 10, 3))
            self.assert_refused(NoValue, {"word": "c"}, TEXT, "add a c", values=values)
        values["a"] = 30
        self.assert_answer("add a b", "reg", values, (34, 10, 3))

    def test_terms_as_great_as_allowed(self):
        self.assert_answer(" ".join(["neg"] * 119 + ["a"]), "reg", {"a": 5}, (-5, 119 * 7 + 3, 2))
        self.assert_answer(" ".join(["add"] * 59 + ["a"] * 60), "reg", {"a": 5}, (300, 59 * 4 + 60 * 3, 3))
        self.assert_answer(" ".join(["add a"] * 59 + ["a"]), "reg", {"a": 5}, (300, 59 * 4 + 60 * 3, 3))


class Refusals(WholeCase):
    def test_bad_row_with_its_row(self):
        for place in range(9):
            rows = GOOD.split("\n")
            rows.insert(place, "nonsense")
            self.assert_refused(BadRow, {"row": place + 1}, "\n".join(rows))
        self.assert_refused(BadRow, {"row": 9}, GOOD + "\n" + NO_RULE)
        self.assert_refused(BadRow, {"row": 11}, GOOD + "\n" + NO_RULE + "\n\n" + NO_ROW)
        self.assert_refused(BadRow, {"row": 1}, " ")
        self.assert_refused(BadRow, {"row": 2}, "\n ")

    def test_not_sound(self):
        self.assert_refused(Twice, {"word": "imm"}, GOOD + "\n" + TWO_KINDS)
        self.assert_refused(Twice, {"word": "sum"}, GOOD + "\n" + TWO_NAMES)
        self.assert_refused(Twice, {"word": "reg"}, GOOD + "\nrule reg reg 1 = any\ndoes reg put out n1")
        self.assert_refused(NoName, {"word": "area"}, GOOD + "\n" + NO_KIND)
        self.assert_refused(BadShape, {"word": "bent"}, GOOD + "\n" + NO_SHAPE)
        self.assert_refused(BadDeed, {"word": "idle"}, GOOD + "\n" + NO_DEED)
        self.assert_refused(Unsound, {"word": "wrong", "worths": {"h1": 1}}, GOOD + "\n" + NOT_SOUND)

    def test_not_sound_though_the_rule_is_of_no_use(self):
        self.assert_refused(Unsound, {"word": "wrong"}, GOOD + "\n" + NOT_SOUND, "5", "imm", {})

    def test_no_term(self):
        for text in ("", " ", "add a", "a b", "add  a b", "add a b ", " add a b", "add a out", "A", "01", "-0", "any",
                     "add a b\n", "var", "9" * 61, "abcdefghi"):
            self.assert_refused(NoTerm, {}, text=text)

    def test_a_kind_that_is_none(self):
        for kind in ("", " ", "none", "REG", "re", "regs", "any", "name", "sum", "a", "\n", "reg "):
            self.assert_refused(NoName, {"word": kind}, kind=kind)

    def test_a_book_without_kinds(self):
        self.assert_refused(NoName, {"word": "reg"}, "")
        self.assert_refused(NoName, {"word": "reg"}, "\n\n")
        self.assert_refused(NoCover, {}, "kind reg")
        self.assert_refused(NoTerm, {}, "", text="")

    def test_no_cover(self):
        self.assert_refused(NoCover, {}, text="mul a b")
        self.assert_refused(NoCover, {}, text="add a 5")
        self.assert_refused(NoCover, {}, text="a", kind="imm")
        self.assert_refused(NoCover, {}, text="add a mul b c", values={})

    def test_no_value(self):
        self.assert_refused(NoValue, {"word": "b"}, values={"a": 1})
        self.assert_refused(NoValue, {"word": "a"}, values={"b": 1})
        self.assert_refused(NoValue, {"word": "reg"}, text="add a reg")
        for values in ({}, {"c": 5}):
            with self.assertRaises(NoValue) as caught:
                answer(GOOD, "add a b", "reg", values)
            self.assertIn(caught.exception.word, ("a", "b"))

    def test_several_at_once_in_their_order(self):
        # Each of the faults there or not; of those that are there the first is refused.
        rows = ((NO_ROW, BadRow, {}), (NO_RULE, BadRow, {}), (TWO_KINDS, Twice, {"word": "imm"}),
                (TWO_NAMES, Twice, {"word": "sum"}), (NO_KIND, NoName, {"word": "area"}),
                (NO_SHAPE, BadShape, {"word": "bent"}), (NO_DEED, BadDeed, {"word": "idle"}),
                (NOT_SOUND, Unsound, {"word": "wrong", "worths": {"h1": 1}}))
        asked = ((NoTerm, {}), (NoName, {"word": "none"}), (NoCover, {}), (NoValue, {"word": "b"}))
        for there in itertools.product((True, False), repeat=len(rows) + len(asked)):
            if not any(there):
                continue
            chosen = [row for row, is_there in zip(rows, there) if is_there]
            no_term, no_kind, no_cover, no_value = there[len(rows):]
            book = "\n".join([GOOD] + [row[0] for row in chosen])
            text = ("mul a b" if no_cover else "add a b") + (" c" if no_term else "")
            refusal, kept = [row[1:] for row in rows + tuple((None,) + one for one in asked)][there.index(True)]
            if there[0] or there[1]:
                kept = {"row": 9 if there[0] else book.split("\n").index(NO_RULE) + 1}
            self.assert_refused(refusal, kept, book, text, "none" if no_kind else "reg",
                                {"a": 1} if no_value else {"a": 1, "b": 2})

    def test_rule_by_rule(self):
        faults = ((TWO_NAMES, Twice, {"word": "sum"}), (NO_KIND, NoName, {"word": "area"}),
                  (NO_SHAPE, BadShape, {"word": "bent"}), (NO_DEED, BadDeed, {"word": "idle"}),
                  (NOT_SOUND, Unsound, {"word": "wrong"}))
        for order in itertools.permutations(faults):
            self.assert_refused(order[0][1], order[0][2], "\n".join([GOOD] + [fault[0] for fault in order]), "", "", {})


class OverTheWhole(WholeCase):
    """What [3] promises, for drawn small books and terms."""

    def values_for(self, source, words):
        most = source.choice((1, 9, 10 ** 30))
        return {name: source.randint(-most, most) for name in words if isinstance(name, str) and name not in
                ("add", "sub", "mul", "neg")}

    def test_answers(self):
        source = random.Random(91)
        ends = {True: 0, False: 0}
        for _ in range(300):
            book = source.choice((some_dense_book, some_rich_book))(source, source.randint(1, 3), source.randint(6, 12))
            words = some_term(source, source.randint(1, 9))
            values = self.values_for(source, words)
            choices = plain_choices(book, words)
            for kind in book[0]:
                ends[(0, kind) in choices] += 1
                if (0, kind) not in choices:
                    self.assert_refused(NoCover, {}, shown_book(book), shown_term(words), kind, values)
                    continue
                cover = cheapest(book, words, kind)
                told = (worth(words, values), choices[0, kind][0], need(book, words, kind, cover))
                self.assert_answer(shown_term(words), kind, values, told, shown_book(book))
        self.assertGreater(min(ends.values()), 200)

    def test_no_cover_costs_less_and_the_table_shows_it(self):
        source = random.Random(92)
        ends = {True: 0, False: 0}
        for _ in range(200):
            book = some_dense_book(source, source.randint(1, 3), source.randint(4, 10), source.choice((2, 9)))
            words = some_term(source, source.randint(1, 5))
            table = prices(book, words)
            self.assertIs(is_table(book, words, table), True)
            for place, row in enumerate(table):
                for other in (table[:place] + table[place + 1:], table[:place] + [row, row] + table[place + 1:],
                              table[:place] + [row[:2] + (row[2] - 1,) + row[3:]] + table[place + 1:],
                              table[:place] + [row[:2] + (row[2] + 1,) + row[3:]] + table[place + 1:]):
                    self.assertIs(is_table(book, words, other), False)
            told = {row[:2]: row[2] for row in table}
            for kind in book[0]:
                covers = all_covers(book, words, 0, kind, 7)
                ends[(0, kind) in told] += 1
                if (0, kind) in told:
                    cover = cheapest(book, words, kind)
                    self.assertEqual(cover_price(book, words, 0, kind, cover), told[0, kind])
                    found = [cover_price(book, words, 0, kind, other) for other in covers]
                    self.assertLessEqual(told[0, kind], min(found, default=told[0, kind]))
                else:
                    self.assertEqual(covers, [])
                    with self.assertRaises(NoCover):
                        cheapest(book, words, kind)
        self.assertGreater(min(ends.values()), 100)

    def test_the_rows_of_small_covers(self):
        source = random.Random(93)
        found = 0
        for _ in range(150):
            book = some_dense_book(source, source.randint(1, 3), source.randint(6, 12))
            words = some_term(source, source.randint(1, 6))
            values = self.values_for(source, words)
            for kind in book[0]:
                covers = all_covers(book, words, 0, kind, 7)
                for cover in source.sample(covers, min(15, len(covers))):
                    found += 1
                    rows, box = rows_of(book, words, kind, cover)
                    self.assertEqual(run(rows, values)[box], worth(words, values))
                    rows, box, many = tight_rows(book, words, kind, cover)
                    self.assertEqual(run(rows, values)[box], worth(words, values))
                    self.assertEqual(many, need_by_all_orders(cover_tree(book, words, 0, kind, cover)))
        self.assertGreater(found, 500)

    def test_like_normal_forms_just_where_worths_are_like(self):
        source = random.Random(94)
        ends = {True: 0, False: 0}
        for _ in range(600):
            one, other = (some_term(source, source.randint(1, 6), ("a", "b", 0, 1, 2)) for _ in range(2))
            if source.random() < 0.3:
                other = source.choice((("neg", "neg") + one, ("sub", 0, "neg") + one, ("add",) + one + (0,),
                                       ("mul", 1) + one))
            forms = form_of(one), form_of(other)
            grid = [dict(a=a, b=b) for a in range(-4, 5) for b in range(-4, 5)]
            alike = all(worth(one, values) == worth(other, values) for values in grid)
            ends[alike] += 1
            self.assertIs(forms[0] == forms[1], alike)
            values = parting(*forms)
            self.assertIs(values is None, alike)
            if not alike:
                values = {"a": 0, "b": 0, **values}
                self.assertNotEqual(worth(one, values), worth(other, values))
        self.assertGreater(min(ends.values()), 100)

    def test_the_book_read_from_its_text_is_the_book(self):
        book = sound(read_book(TEXT))
        self.assertEqual(read_book(shown_book(book)), book)


if __name__ == "__main__":
    unittest.main()
