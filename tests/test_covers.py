"""Covers: their price, what is none, and the cheapest."""

import copy
import itertools
import random
import unittest

from plain import (all_covers, book_of, cover_tree, plain_choices, plain_fits, ring_book, some_book, some_cover,
                   some_dense_book, some_term)
from pricecover.covers import cheapest, cover_price
from pricecover.errors import BadCover, NoCover
from pricecover.prices import prices
from pricecover.terms import read_term

# The ring of a, b and c stands apart from reg and imm.
BOOK = book_of("reg imm a b c", "const imm 1 = any", "move reg 2 = imm", "name reg 3 = var", "same reg 10 = reg",
               "sum reg 40 = add reg reg", "inc reg 50 = add reg imm", "less reg 60 = sub reg reg",
               "turn reg 70 = neg reg", "whole reg 80 = add var mul reg any", "zero reg 90 = 0",
               "three reg 100 = add reg sub imm reg", "ab b 200 = a", "bc c 300 = b", "ca a 400 = c", "num a 500 = any")


class CoversCase(unittest.TestCase):
    def assert_price(self, text, place, kind, cover, price, book=BOOK):
        with self.subTest(text=text, place=place, kind=kind, cover=cover):
            told = cover_price(book, read_term(text), place, kind, tuple(cover.split(" ")))
            self.assertEqual(told, price)
            self.assertIs(type(told), int)

    def assert_none(self, text, place, kind, cover, book=BOOK):
        with self.subTest(text=text, place=place, kind=kind, cover=cover):
            with self.assertRaises(BadCover) as caught:
                cover_price(book, read_term(text), place, kind, tuple(cover))
            self.assertIs(type(caught.exception), BadCover)


class Prices(CoversCase):
    def test_one_name(self):
        self.assert_price("5", 0, "imm", "const", 1)
        self.assert_price("-5", 0, "a", "num", 500)
        self.assert_price("a", 0, "reg", "name", 3)
        self.assert_price("reg", 0, "reg", "name", 3)
        self.assert_price("0", 0, "reg", "zero", 90)

    def test_many_names(self):
        self.assert_price("add a b", 0, "reg", "sum name name", 46)
        self.assert_price("add a 5", 0, "reg", "sum name move const", 46)
        self.assert_price("add a 5", 0, "reg", "inc name const", 54)
        self.assert_price("add a mul b 5", 0, "reg", "whole name", 83)
        self.assert_price("add add a 1 neg b", 0, "reg", "sum sum name move const turn name", 159)
        self.assert_price("add add a 1 neg b", 0, "reg", "sum inc name const turn name", 167)

    def test_holes_in_the_words_order(self):
        # Told the other way round, no name would fit.
        self.assert_price("add 1 a", 0, "reg", "sum move const name", 46)
        self.assert_none("add 1 a", 0, "reg", ("sum", "name", "move", "const"))
        self.assert_price("add neg a sub 3 0", 0, "reg", "three turn name const zero", 264)
        self.assert_none("add neg a sub 3 0", 0, "reg", ("three", "zero", "const", "turn", "name"))
        self.assert_none("add neg a sub 3 0", 0, "reg", ("three", "turn", "name", "zero", "const"))
        self.assert_none("add neg a sub 3 0", 0, "reg", ("three", "const", "turn", "name", "zero"))

    def test_a_hole_is_covered_whole_before_the_next(self):
        self.assert_price("add neg a b", 0, "reg", "sum turn name name", 116)
        self.assert_price("add a neg b", 0, "reg", "sum name turn name", 116)
        self.assert_none("add neg a b", 0, "reg", ("sum", "name", "turn", "name"))
        self.assert_none("add a neg b", 0, "reg", ("sum", "turn", "name", "name"))

    def test_at_a_part_that_is_not_the_first(self):
        self.assert_price("add a neg b", 1, "reg", "name", 3)
        self.assert_price("add a neg b", 2, "reg", "turn name", 73)
        self.assert_price("add a neg b", 3, "reg", "name", 3)
        self.assert_price("sub add a 1 add 2 b", 1, "reg", "sum name move const", 46)
        self.assert_price("sub add a 1 add 2 b", 4, "reg", "sum move const name", 46)
        self.assert_price("sub add a 1 add 2 b", 5, "imm", "const", 1)
        for place, cover in ((0, "name"), (0, "turn name"), (1, "turn name"), (2, "name"), (3, "turn name")):
            self.assert_none("add a neg b", place, "reg", cover.split(" "))
        # A cover of another part with the same word.
        self.assert_none("sub add a 1 add 2 b", 4, "reg", ("sum", "name", "move", "const"))
        # A cover of the whole is none of a part, and the other way round.
        self.assert_none("neg neg a", 1, "reg", ("turn", "turn", "name"))
        self.assert_none("neg neg a", 0, "reg", ("turn", "name"))

    def test_rules_that_are_one_hole_alone(self):
        self.assert_price("5", 0, "reg", "move const", 3)
        self.assert_price("a", 0, "reg", "same name", 13)
        self.assert_price("a", 0, "reg", "same same same name", 33)
        self.assert_price("add a 5", 0, "reg", "same sum same name same same move const", 86)
        self.assert_none("a", 0, "reg", ("same",))
        self.assert_none("a", 0, "reg", ("same", "same"))
        self.assert_none("a", 0, "reg", ("move", "name"))

    def test_rules_from_kind_to_kind_round_in_a_ring(self):
        self.assert_price("5", 0, "b", "ab num", 700)
        self.assert_price("5", 0, "c", "bc ab num", 1000)
        self.assert_price("5", 0, "a", "ca bc ab num", 1400)
        self.assert_price("5", 0, "a", "ca bc ab ca bc ab num", 2300)
        for cover in ("ab num", "ca bc ab", "ca bc", "ca ab num", "ca bc num", "ca bc ab ca num"):
            self.assert_none("5", 0, "a", cover.split(" "))

    def test_great_prices(self):
        book = book_of("reg", "name reg 999999 = var", "sum reg 999999 = add reg reg")
        words = ("add",) * 59 + ("a",) * 60
        self.assertEqual(cover_price(book, words, 0, "reg", ("sum",) * 59 + ("name",) * 60), 119 * 999999)

    def test_covers_of_three_hundred_names(self):
        self.assert_price("a", 0, "reg", "same " * 299 + "name", 2993)
        self.assert_price("5", 0, "b", "ab " + "ca bc ab " * 99 + "num", 200 + 99 * 900 + 500)
        leaning = ("add",) * 59 + ("a",) * 60
        cover = ("sum",) * 59 + ("same", "same", "same", "name") * 60
        self.assertEqual(len(cover), 299)
        self.assertEqual(cover_price(BOOK, leaning, 0, "reg", cover), 59 * 40 + 60 * 33)
        other = ("sub", "a") * 59 + ("a",)
        cover = ("less", "same", "same", "same", "name") * 59 + ("same",) * 4 + ("name",)
        self.assertEqual(len(cover), 300)
        self.assertEqual(cover_price(BOOK, other, 0, "reg", cover), 59 * 93 + 43)
        deep = ("neg",) * 119 + ("a",)
        cover = ("turn", "same") * 119 + ("same",) * 61 + ("name",)
        self.assertEqual(len(cover), 300)
        self.assertEqual(cover_price(BOOK, deep, 0, "reg", cover), 119 * 80 + 613)
        for cover in (cover[:-1], cover + ("name",), cover[:150] + ("none",) + cover[151:], cover[1:]):
            with self.assertRaises(BadCover):
                cover_price(BOOK, deep, 0, "reg", cover)

    def test_many_by_chance(self):
        source = random.Random(61)
        found = 0
        for _ in range(60):
            book = some_book(source, source.randint(1, 4), source.randint(6, 16), 999)
            words = some_term(source, source.randint(1, 15))
            own = {rule[0]: rule[2] for rule in book[1]}
            for place, kind in itertools.product(range(len(words)), book[0]):
                cover = some_cover(source, book, words, place, kind)
                if cover is not None and len(cover) <= 300:
                    found += 1
                    cover_tree(book, words, place, kind, cover)
                    self.assertEqual(cover_price(book, words, place, kind, cover), sum(own[name] for name in cover))
        self.assertGreater(found, 300)


class NoCovers(CoversCase):
    def test_no_names_at_all(self):
        for text, place, kind in (("5", 0, "imm"), ("a", 0, "reg"), ("add a b", 0, "reg"), ("add a b", 2, "reg"),
                                  ("a", 0, "none")):
            self.assert_none(text, place, kind, ())

    def test_a_name_left_over(self):
        self.assert_none("5", 0, "imm", ("const", "const"))
        self.assert_none("a", 0, "reg", ("name", "name"))
        self.assert_none("a", 0, "reg", ("name", "same"))
        self.assert_none("a", 0, "reg", ("name", ""))
        self.assert_none("add a b", 0, "reg", ("sum", "name", "name", "name"))
        self.assert_none("add a b", 0, "reg", ("sum", "name", "name", "none"))
        self.assert_none("add a b", 1, "reg", ("name", "name"))

    def test_a_name_lacking(self):
        self.assert_none("5", 0, "reg", ("move",))
        self.assert_none("add a b", 0, "reg", ("sum",))
        self.assert_none("add a b", 0, "reg", ("sum", "name"))
        self.assert_none("add neg a b", 0, "reg", ("sum", "turn", "name"))
        self.assert_none("add a neg b", 0, "reg", ("sum", "name", "turn"))

    def test_a_name_that_is_none_of_the_books(self):
        for name in ("", " ", "none", "reg", "imm", "any", "var", "add", "NAME", "names", "nam", "name ", "a", "5",
                     "\n", "name name", "sum name name"):
            self.assert_none("a", 0, "reg", (name,))
            self.assert_none("add a b", 0, "reg", (name, "name", "name"))
            self.assert_none("add a b", 0, "reg", ("sum", name, "name"))
            self.assert_none("add a b", 0, "reg", ("sum", "name", name))

    def test_a_rule_that_does_not_fit_there(self):
        self.assert_none("5", 0, "reg", ("name",))
        self.assert_none("a", 0, "imm", ("const",))
        self.assert_none("1", 0, "reg", ("zero",))
        self.assert_none("neg a", 0, "reg", ("sum", "name", "name"))
        self.assert_none("sub a b", 0, "reg", ("sum", "name", "name"))
        self.assert_none("add a b", 0, "reg", ("sum", "name", "zero"))
        self.assert_none("add a mul b c", 0, "reg", ("whole", "name"))
        self.assert_none("add a add b 5", 0, "reg", ("whole", "name"))
        self.assert_none("add a b", 0, "reg", ("sum", "turn", "name", "name"))

    def test_a_rule_of_another_kind(self):
        self.assert_none("5", 0, "reg", ("const",))
        self.assert_none("5", 0, "imm", ("num",))
        self.assert_none("5", 0, "imm", ("move", "const"))
        self.assert_none("a", 0, "imm", ("name",))
        self.assert_none("add a 5", 0, "reg", ("sum", "name", "const"))
        self.assert_none("add a 5", 0, "reg", ("inc", "name", "move", "const"))
        self.assert_none("add a 5", 0, "reg", ("inc", "name", "num"))
        self.assert_none("add a 5", 0, "imm", ("sum", "name", "move", "const"))
        # Of the right kind at the second hole alone.
        self.assert_none("add 4 5", 0, "reg", ("inc", "const", "const"))

    def test_a_kind_that_is_none(self):
        for kind in ("", " ", "none", "REG", "re", "regs", "any", "var", "add", "name", "const", "x", "\n", "5"):
            self.assert_none("a", 0, kind, ("name",))
            self.assert_none("5", 0, kind, ("const",))
            self.assert_none("5", 0, kind, ("same", "move", "const"))
            self.assert_none("5", 0, kind, (kind,))

    def test_a_book_without_rules_or_kinds(self):
        for book in (((), ()), (("reg",), ())):
            for cover in ((), ("name",), ("",)):
                self.assert_none("a", 0, "reg", cover, book)

    def test_all_rows_of_names_for_small_terms(self):
        source = random.Random(62)
        ends = {True: 0, False: 0}
        for _ in range(30):
            book = some_dense_book(source, source.randint(1, 3), source.randint(4, 7), 99)
            words = some_term(source, source.randint(1, 4))
            own = {rule[0]: rule[2] for rule in book[1]}
            names = list(own) + ["none"]
            for place, kind in itertools.product(range(len(words)), book[0]):
                covers = all_covers(book, words, place, kind, 4)
                self.assertEqual(len(covers), len(set(covers)))
                for many in range(5):
                    for cover in itertools.product(names, repeat=many):
                        ends[cover in covers] += 1
                        asked = sum(own[name] for name in cover) if cover in covers else None
                        try:
                            told = cover_price(book, words, place, kind, cover)
                        except BadCover:
                            told = None
                        self.assertEqual(told, asked, (book, words, place, kind, cover))
        self.assertGreater(ends[True], 150)
        self.assertGreater(ends[False], 3000)


class Cheapest(CoversCase):
    def assert_cheapest(self, book, words, kind, cover, price):
        with self.subTest(book=book, words=words, kind=kind):
            told = cheapest(book, words, kind)
            self.assertEqual(told, tuple(cover.split(" ")))
            self.assertIs(type(told), tuple)
            self.assertEqual(cover_price(book, words, 0, kind, told), price)

    def assert_no_cover(self, book, words, kind):
        with self.subTest(book=book, words=words, kind=kind):
            with self.assertRaises(NoCover) as caught:
                cheapest(book, words, kind)
            self.assertIs(type(caught.exception), NoCover)

    def test_ordinary(self):
        self.assert_cheapest(BOOK, read_term("5"), "imm", "const", 1)
        self.assert_cheapest(BOOK, read_term("5"), "reg", "move const", 3)
        self.assert_cheapest(BOOK, read_term("0"), "reg", "move const", 3)
        self.assert_cheapest(BOOK, read_term("a"), "reg", "name", 3)
        self.assert_cheapest(BOOK, read_term("add 5 neg a"), "reg", "sum move const turn name", 116)
        self.assert_cheapest(BOOK, read_term("5"), "c", "bc ab num", 1000)

    def test_a_great_rule_against_small_ones(self):
        for price, cover, told in ((6, "great name name name", 9), (7, "great name name name", 10),
                                   (8, "sum prod name name name", 10)):
            book = book_of("reg", f"great reg {price} = add mul reg reg reg", "name reg 1 = var",
                           "sum reg 4 = add reg reg", "prod reg 3 = mul reg reg")
            self.assert_cheapest(book, read_term("add mul a b c"), "reg", cover, told)

    def test_of_several_that_cost_the_same_the_rules_that_the_table_names(self):
        rules = ("sum reg 3 = add reg reg", "also reg 3 = add reg reg", "inc reg 4 = add reg imm",
                 "move reg 2 = imm", "fetch reg 2 = any", "const imm 1 = any")
        words = read_term("add 4 add 5 6")
        for order in itertools.permutations(rules):
            book = book_of("reg imm", *order)
            place = [rule.split(" ")[0] for rule in order].index
            first = min("sum", "also", key=place)
            # Below, inc costs 4 + 2 + 1, as sum and also do: 3 + 2 + 2.
            lower = "inc fetch const" if place("inc") < place(first) else first + " fetch fetch"
            self.assert_cheapest(book, words, "reg", first + " fetch " + lower, 12)
            table = {row[:2]: row[3] for row in prices(book, words)}
            self.assertEqual(cheapest(book, words, "reg")[:3], (table[0, "reg"], table[1, "reg"], table[2, "reg"]))

    def test_the_tables_rule_at_each_part_by_its_kind(self):
        book = book_of("p q", "pp p 1 = any", "qq q 1 = any", "qa q 1 = var", "pa p 1 = var", "both p 1 = sub q p")
        self.assert_cheapest(book, read_term("sub 4 a"), "p", "both qq pa", 3)
        self.assert_cheapest(book, read_term("sub a 4"), "p", "both qa pp", 3)

    def test_rules_from_kind_to_kind_round_in_a_ring(self):
        rules = ("ab b 1 = a", "bc c 2 = b", "ca a 3 = c", "leaf b 4 = any", "dear a 20 = any", "own a 1 = a")
        for order in itertools.permutations(rules):
            book = book_of("a b c", *order)
            self.assert_cheapest(book, (3,), "a", "ca bc leaf", 9)
            self.assert_cheapest(book, (3,), "b", "leaf", 4)
            self.assert_cheapest(book, (3,), "c", "bc leaf", 6)
            self.assert_no_cover(book, ("x",), "a")

    def test_none_where_there_is_none(self):
        self.assert_no_cover(BOOK, ("a",), "imm")
        self.assert_no_cover(BOOK, ("neg", 5), "imm")
        self.assert_no_cover(BOOK, read_term("mul a b"), "reg")
        self.assert_no_cover(BOOK, read_term("add a mul b c"), "reg")
        self.assert_no_cover(BOOK, ("a",), "b")
        # A part is covered, but not the whole.
        book = book_of("reg", "name reg 1 = var", "sum reg 1 = add reg reg")
        self.assert_no_cover(book, read_term("add a 5"), "reg")
        self.assert_no_cover(book, read_term("neg a"), "reg")
        self.assert_no_cover(((), ()), ("a",), "reg")
        self.assert_no_cover((("reg",), ()), ("a",), "reg")

    def test_none_where_the_kind_is_none(self):
        for kind in ("", " ", "none", "REG", "re", "regs", "any", "var", "name", "const", "x", "\n", "5", "add"):
            self.assert_no_cover(BOOK, ("a",), kind)
            self.assert_no_cover(BOOK, (5,), kind)

    def test_none_of_all_small_covers_costs_less(self):
        source = random.Random(63)
        found = {True: 0, False: 0}
        for _ in range(300):
            book = some_dense_book(source, source.randint(1, 3), source.randint(4, 10), source.choice((3, 99)))
            words = some_term(source, source.randint(1, 5))
            for kind in book[0]:
                covers = all_covers(book, words, 0, kind, 6)
                try:
                    told = cheapest(book, words, kind)
                except NoCover:
                    self.assertEqual(covers, [])
                    self.assertNotIn((0, kind), plain_choices(book, words))
                    found[False] += 1
                    continue
                price = cover_price(book, words, 0, kind, told)
                found[len(covers) > 1] += 1
                if len(told) <= 6:
                    self.assertIn(told, covers)
                for cover in covers:
                    self.assertLessEqual(price, cover_price(book, words, 0, kind, cover))
        self.assertGreater(min(found.values()), 100)

    def test_many_by_chance(self):
        source = random.Random(64)
        found = 0
        for _ in range(150):
            book = some_book(source, source.randint(1, 8), source.randint(6, 30), source.choice((1, 3, 999999)))
            words = some_term(source, source.randint(1, 40))
            choices = plain_choices(book, words)
            fits = plain_fits(book, words)

            def named(place, kind):
                name = choices[place, kind][1][0]
                return sum([named(*hole) for hole in fits[name, place]["holes"]], (name,))

            for kind in book[0]:
                if (0, kind) in choices:
                    found += 1
                    told = cheapest(book, words, kind)
                    self.assertEqual(told, named(0, kind))
                    self.assertEqual(cover_price(book, words, 0, kind, told), choices[0, kind][0])
                else:
                    self.assert_no_cover(book, words, kind)
        self.assertGreater(found, 200)

    def test_as_great_as_allowed(self):
        deep = ("neg",) * 119 + ("a",)
        leaning = ("add",) * 59 + ("a",) * 60
        self.assertEqual(cheapest(BOOK, deep, "reg"), ("turn",) * 119 + ("name",))
        self.assertEqual(cheapest(BOOK, leaning, "reg"), ("sum",) * 59 + ("name",) * 60)
        # From kind to kind at each part: more names than may be handed in, and yet handed on as told.
        book = ring_book()
        told = cheapest(book, deep, "a")
        self.assertEqual(told, ("ra", "rh", "rg", "rf", "re", "rd", "rc", "turn") * 119 + ("ra", "name"))
        self.assertEqual(cover_price(book, deep, 0, "a", told), 954)

    def test_nothing_handed_in_is_changed(self):
        words = read_term("add 5 neg a")
        kept = copy.deepcopy((BOOK, words))
        told = cheapest(BOOK, words, "reg")
        again = tuple(told)
        cover_price(BOOK, words, 0, "reg", told)
        self.assertEqual(cheapest(BOOK, words, "reg"), again)
        self.assertEqual((BOOK, words), kept)


if __name__ == "__main__":
    unittest.main()
