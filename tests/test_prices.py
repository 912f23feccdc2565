"""Prices: where rules fit, the table of least prices, and which lists are such a table."""

import copy
import itertools
import random
import unittest

from plain import book_of, plain_choices, plain_fits, some_book, some_term
from pricecover.prices import fit, is_table, prices
from pricecover.terms import read_term


def plain_table(book, words):
    return [key + (number, names[0]) for key, (number, names) in sorted(plain_choices(book, words).items())]


def plain_is_table(choices, table):
    keys = [row[:2] for row in table]
    return keys == sorted(choices) and all(choices[row[:2]][0] == row[2] and row[3] in choices[row[:2]][1]
                                           for row in table)


def cheapest_by_trying(book, words, place, kind, within=()):
    """The least price over all covers, each of which passes no kind twice at one part."""
    if (place, kind) in within:
        return None
    fits = plain_fits(book, words)
    found = []
    for name, own, price, _, _ in book[1]:
        if own == kind and (name, place) in fits:
            parts = [cheapest_by_trying(book, words, *hole, within + ((place, kind),))
                     for hole in fits[name, place]["holes"]]
            if None not in parts:
                found.append(price + sum(parts))
    return min(found, default=None)


class PricesCase(unittest.TestCase):
    def assert_fit(self, book, rule, words, place, found):
        with self.subTest(rule=rule, words=words, place=place):
            told = fit(book, rule, words, place)
            self.assertEqual(told, found)
            if found is not None:
                self.assertIs(type(told), tuple)
                self.assertEqual([type(part) for part in told], [tuple] * 3)

    def assert_table(self, book, words, table):
        with self.subTest(book=book, words=words):
            told = prices(book, words)
            self.assertEqual(told, table)
            self.assertIs(type(told), list)
            self.assertEqual([type(row) for row in told], [tuple] * len(told))
            self.assertIs(is_table(book, words, told), True)


class Fitting(PricesCase):
    BOOK = book_of("reg imm", "const imm 1 = any", "name reg 1 = var", "zero imm 1 = 0", "minus imm 1 = -3",
                   "move reg 1 = imm", "same reg 1 = reg", "sum reg 1 = add reg reg", "inc reg 1 = add reg 1",
                   "turned reg 1 = neg any", "under reg 1 = neg var", "deep reg 1 = sub reg add var mul imm any",
                   "pairs reg 1 = add any sub any var", "names reg 1 = sub var mul any var",
                   "twice reg 1 = mul 2 neg reg")

    def fits(self, rule, text, found, place=0):
        self.assert_fit(self.BOOK, rule, read_term(text), place, found)

    def test_any_upon_numbers_and_no_names(self):
        self.fits("const", "5", ((), (5,), ()))
        self.fits("const", "0", ((), (0,), ()))
        self.fits("const", "-5", ((), (-5,), ()))
        self.fits("const", "9" * 60, ((), (10 ** 60 - 1,), ()))
        for text in ("a", "reg", "neg 5", "add 5 5"):
            self.fits("const", text, None)

    def test_var_upon_names_and_no_numbers(self):
        self.fits("name", "a", ((), (), ("a",)))
        self.fits("name", "reg", ((), (), ("reg",)))
        self.fits("name", "imm", ((), (), ("imm",)))
        self.fits("name", "abcdefgh", ((), (), ("abcdefgh",)))
        for text in ("5", "0", "neg a", "add a a", "sub a a", "mul a a"):
            self.fits("name", text, None)

    def test_numbers_alike_and_unlike(self):
        self.fits("zero", "0", ((), (), ()))
        self.fits("minus", "-3", ((), (), ()))
        for text in ("1", "-1", "a", "neg 0", "zero"):
            self.fits("zero", text, None)
        for text in ("3", "-4", "0", "neg 3"):
            self.fits("minus", text, None)

    def test_a_shape_that_is_one_hole_alone(self):
        for rule in ("move", "same"):
            for text in ("5", "a", "reg", "neg 5", "add a mul b c"):
                self.fits(rule, text, ((0,), (), ()))
            self.fits(rule, "add a mul b c", ((2,), (), ()), 2)
            self.fits(rule, "add a mul b c", ((4,), (), ()), 4)

    def test_words_alike_and_unlike(self):
        self.fits("sum", "add a b", ((1, 2), (), ()))
        for text in ("sub a b", "mul a b", "neg a", "a", "5", "addd"):
            self.fits("sum", text, None)

    def test_holes_upon_parts_of_any_size(self):
        self.fits("sum", "add add a b c", ((1, 4), (), ()))
        self.fits("sum", "add a add b c", ((1, 2), (), ()))
        self.fits("sum", "add neg neg mul a b neg 5", ((1, 6), (), ()))
        self.fits("sum", "sub add a b add c d", ((5, 6), (), ()), 4)
        self.fits("sum", "sub add a b add c d", ((2, 3), (), ()), 1)
        self.fits("inc", "add mul a add b c 1", ((1,), (), ()))
        self.fits("inc", "add mul a add b c 2", None)
        self.fits("inc", "add 1 a", None)
        self.fits("inc", "add 1 1", ((1,), (), ()))

    def test_a_part_too_small(self):
        words = read_term("add a neg 5")
        for rule, places in (("sum", (0,)), ("turned", (2,)), ("under", ()), ("deep", ()), ("pairs", ()), ("names", ()),
                             ("twice", ())):
            for place in range(4):
                self.assertIs(fit(self.BOOK, rule, words, place) is not None, place in places)
        self.fits("sum", "a", None)
        self.fits("deep", "sub a add b mul c d", None)
        self.fits("deep", "sub a add b c", None)
        self.fits("twice", "mul 2 a", None)
        self.fits("twice", "mul 2 neg a", ((3,), (), ()))
        self.fits("twice", "mul 2 neg a", None, 2)

    def test_places_numbers_and_names_in_order(self):
        self.fits("pairs", "add 1 sub 2 a", ((), (1, 2), ("a",)))
        self.fits("pairs", "add 2 sub 1 b", ((), (2, 1), ("b",)))
        self.fits("pairs", "add 1 sub 1 a", ((), (1, 1), ("a",)))
        self.fits("pairs", "add 1 sub a 1", None)
        self.fits("pairs", "add a sub 1 b", None)
        self.fits("names", "sub b mul 0 a", ((), (0,), ("b", "a")))
        self.fits("names", "sub a mul 0 b", ((), (0,), ("a", "b")))
        self.fits("names", "sub a mul b b", None)
        self.fits("deep", "sub neg a add b mul add c d -9", ((1, 6), (-9,), ("b",)))
        self.fits("deep", "neg sub neg a add b mul add c d -9", ((2, 7), (-9,), ("b",)), 1)
        self.fits("deep", "sub neg a add 5 mul add c d -9", None)
        self.fits("deep", "sub neg a add b mul add c d e", None)
        self.fits("deep", "sub neg a add b sub add c d 5", None)

    def test_holes_of_a_kind_fit_whether_covered_or_not(self):
        book = book_of("reg none", "r reg 1 = neg none", "s reg 1 = add none reg")
        self.assert_fit(book, "r", ("neg", "a"), 0, ((1,), (), ()))
        self.assert_fit(book, "s", ("add", "neg", "a", "b"), 0, ((1, 3), (), ()))

    def test_the_rule_of_that_name(self):
        book = book_of("reg", "a reg 1 = any", "b reg 1 = var", "ab reg 1 = neg any")
        self.assert_fit(book, "a", (5,), 0, ((), (5,), ()))
        self.assert_fit(book, "b", (5,), 0, None)
        self.assert_fit(book, "ab", ("neg", 5), 0, ((), (5,), ()))
        self.assert_fit(book, "a", ("neg", 5), 0, None)

    def test_deep_terms(self):
        words = ("neg",) * 119 + ("a",)
        book = book_of("reg", "r reg 1 = " + "neg " * 11 + "reg", "s reg 1 = " + "neg " * 11 + "var")
        for place in range(120):
            self.assert_fit(book, "r", words, place, ((place + 11,), (), ()) if place <= 108 else None)
            self.assert_fit(book, "s", words, place, ((), (), ("a",)) if place == 108 else None)
        leaning = ("add",) * 59 + tuple("abcdefghij" * 6)
        book = book_of("reg", "r reg 1 = add add reg reg reg")
        for place in range(119):
            self.assert_fit(book, "r", leaning, place, ((place + 2, 117 - place, 118 - place), (), ())
                            if place < 58 else None)

    def test_many_by_chance(self):
        source = random.Random(51)
        fine = 0
        for _ in range(120):
            book = some_book(source, source.randint(1, 4), 12)
            words = some_term(source, source.randint(1, 25))
            fits = plain_fits(book, words)
            for (name, *_), place in itertools.product(book[1], range(len(words))):
                found = fits.get((name, place))
                if found is not None:
                    fine += 1
                    found = (tuple(hole[0] for hole in found["holes"]), tuple(found["numbers"]), tuple(found["names"]))
                self.assert_fit(book, name, words, place, found)
        self.assertGreater(fine, 1000)


class Tables(PricesCase):
    def test_ordinary(self):
        book = book_of("reg imm", "const imm 1 = any", "move reg 2 = imm", "name reg 3 = var",
                       "sum reg 4 = add reg reg", "inc reg 5 = add reg imm")
        self.assert_table(book, read_term("add a add b 7"), [
            (0, "reg", 16, "sum"), (1, "reg", 3, "name"), (2, "reg", 9, "inc"), (3, "reg", 3, "name"),
            (4, "imm", 1, "const"), (4, "reg", 3, "move")])
        self.assert_table(book, (7,), [(0, "imm", 1, "const"), (0, "reg", 3, "move")])
        self.assert_table(book, ("a",), [(0, "reg", 3, "name")])

    def test_nothing(self):
        words = read_term("add a 5")
        self.assert_table(((), ()), words, [])
        self.assert_table((("reg", "imm"), ()), words, [])
        self.assert_table(book_of("reg", "r reg 1 = neg reg", "s reg 1 = reg"), words, [])
        self.assert_table(book_of("reg imm", "r reg 1 = imm", "s imm 1 = reg"), words, [])

    def test_parts_without_a_price(self):
        book = book_of("reg imm", "const imm 1 = any", "sum reg 4 = add imm imm", "less imm 2 = sub reg imm",
                       "turn reg 1 = neg reg")
        self.assert_table(book, read_term("add a 5"), [(2, "imm", 1, "const")])
        self.assert_table(book, read_term("neg add 4 5"),
                          [(0, "reg", 7, "turn"), (1, "reg", 6, "sum"), (2, "imm", 1, "const"), (3, "imm", 1, "const")])
        self.assert_table(book, read_term("neg sub add 4 a 5"), [(3, "imm", 1, "const"), (5, "imm", 1, "const")])
        self.assert_table(book, read_term("sub add 4 6 a"),
                          [(1, "reg", 6, "sum"), (2, "imm", 1, "const"), (3, "imm", 1, "const")])

    def test_rules_of_the_same_price(self):
        rules = ("one reg 3 = any", "two reg 3 = any", "six reg 3 = 6", "over reg 2 = imm", "const imm 1 = any")
        for order in itertools.permutations(rules):
            book = book_of("reg imm", *order)
            names = [rule.split(" ")[0] for rule in order]
            first = [name for name in names if name != "const"][0]
            self.assert_table(book, (6,), [(0, "imm", 1, "const"), (0, "reg", 3, first)])
            first = [name for name in names if name not in ("const", "six")][0]
            self.assert_table(book, (7,), [(0, "imm", 1, "const"), (0, "reg", 3, first)])

    def test_the_first_is_told_of_rules_that_come_to_one_price_by_their_holes(self):
        rules = ("sum reg 5 = add reg reg", "inc reg 6 = add reg imm", "both reg 8 = add any any")
        leaves = ("const imm 1 = any", "move reg 1 = imm")
        for order in itertools.permutations(rules):
            for book in (book_of("reg imm", *(order + leaves)), book_of("reg imm", *(leaves + order))):
                # sum: 5 + 2 + 2, inc: 6 + 2 + 1, both: 8.
                self.assertEqual(prices(book, ("add", 4, 5))[0], (0, "reg", 8, "both"))
                # sum: 5 + 8 + 2, inc: 6 + 8 + 1.
                table = prices(book, ("add", "add", 4, 5, 6))
                names = [rule.split(" ")[0] for rule in order]
                self.assertEqual(table[0], (0, "reg", 15, min("sum", "inc", key=names.index)))

    def test_a_dearer_rule_ahead_is_not_told(self):
        book = book_of("reg", "dear reg 5 = any", "cheap reg 4 = any", "also reg 4 = any")
        self.assert_table(book, (1,), [(0, "reg", 4, "cheap")])

    def test_a_great_rule_against_small_ones(self):
        for price, row in ((6, (0, "reg", 9, "great")), (7, (0, "reg", 10, "great")), (8, (0, "reg", 10, "sum"))):
            book = book_of("reg", f"great reg {price} = add mul reg reg reg", "name reg 1 = var",
                           "sum reg 4 = add reg reg", "prod reg 3 = mul reg reg")
            self.assertEqual(prices(book, read_term("add mul a b c"))[0], row)

    def test_rules_from_kind_to_kind(self):
        rules = ("ab b 1 = a", "bc c 1 = b", "cd d 1 = c", "leaf a 5 = any", "big d 8 = any")
        told = [(0, "a", 5, "leaf"), (0, "b", 6, "ab"), (0, "c", 7, "bc")]
        for order in itertools.permutations(rules):
            first = min("cd", "big", key=[rule.split(" ")[0] for rule in order].index)
            self.assert_table(book_of("a b c d", *order), (3,), told + [(0, "d", 8, first)])

    def test_rules_from_kind_to_kind_are_cheaper_than_a_rule_of_the_kind(self):
        book = book_of("a b c", "far c 9 = any", "bc c 1 = b", "ab b 1 = a", "near a 1 = any")
        self.assert_table(book, (3,), [(0, "a", 1, "near"), (0, "b", 2, "ab"), (0, "c", 3, "bc")])

    def test_rules_round_in_a_ring(self):
        rules = ("ab b 1 = a", "bc c 2 = b", "ca a 3 = c", "leaf b 4 = any", "dear a 20 = any", "own a 1 = a")
        told = [(0, "a", 9, "ca"), (0, "b", 4, "leaf"), (0, "c", 6, "bc")]
        for order in itertools.permutations(rules):
            self.assert_table(book_of("a b c", *order), (3,), told)
            self.assert_table(book_of("c b a", *order), ("x",), [])

    def test_rules_round_in_a_ring_with_a_way_out_at_each_part(self):
        book = book_of("a b", "ab b 1 = a", "ba a 1 = b", "num a 3 = any", "name b 3 = var", "sum a 2 = add a b")
        self.assert_table(book, read_term("add 1 x"), [
            (0, "a", 8, "sum"), (0, "b", 9, "ab"), (1, "a", 3, "num"), (1, "b", 4, "ab"),
            (2, "a", 4, "ba"), (2, "b", 3, "name")])

    def test_a_rule_from_a_kind_to_itself_is_never_told(self):
        book = book_of("a", "own a 1 = a", "leaf a 7 = any")
        self.assert_table(book, (3,), [(0, "a", 7, "leaf")])

    def test_sorted_by_place_then_by_the_kinds_text(self):
        kinds = ("z", "aa", "a", "ab", "b", "k")
        for order in (kinds, tuple(reversed(kinds)), tuple(sorted(kinds))):
            book = book_of(" ".join(order), *[f"leaf{kind} {kind} 2 = any" for kind in order],
                           *[f"neg{kind} {kind} 1 = neg {kind}" for kind in order])
            self.assert_table(book, ("neg", 5), [(0, kind, 3, "neg" + kind) for kind in sorted(kinds)]
                              + [(1, kind, 2, "leaf" + kind) for kind in sorted(kinds)])

    def test_places_of_more_than_one_figure_in_order(self):
        book = book_of("reg", "name reg 1 = var", "turn reg 1 = neg reg")
        self.assert_table(book, ("neg",) * 14 + ("a",),
                          [(place, "reg", 15 - place, "turn") for place in range(14)] + [(14, "reg", 1, "name")])

    def test_names_in_the_term_like_kinds(self):
        book = book_of("reg imm", "name reg 1 = var", "sum reg 2 = add reg reg")
        self.assert_table(book, ("add", "imm", "reg"),
                          [(0, "reg", 4, "sum"), (1, "reg", 1, "name"), (2, "reg", 1, "name")])

    def test_great_prices(self):
        book = book_of("reg", "name reg 999999 = var", "sum reg 999999 = add reg reg")
        words = ("add",) * 59 + ("a",) * 60
        self.assertEqual(prices(book, words)[0], (0, "reg", 119 * 999999, "sum"))
        self.assert_table(book, words, plain_table(book, words))

    def test_what_is_told_is_the_askers_own(self):
        book = book_of("reg", "name reg 1 = var", "turn reg 1 = neg reg")
        words = ("neg", "a")
        kept = copy.deepcopy((book, words))
        told = prices(book, words)
        told.append("more")
        told[0] = None
        self.assertEqual(prices(book, words), [(0, "reg", 2, "turn"), (1, "reg", 1, "name")])
        self.assertEqual((book, words), kept)

    def test_least_over_all_covers(self):
        source = random.Random(52)
        priced = 0
        for _ in range(150):
            book = some_book(source, source.randint(1, 3), source.randint(3, 7))
            words = some_term(source, source.randint(1, 7))
            told = {row[:2]: row[2] for row in prices(book, words)}
            priced += len(told)
            for place, kind in itertools.product(range(len(words)), book[0]):
                self.assertEqual(told.get((place, kind)), cheapest_by_trying(book, words, place, kind))
        self.assertGreater(priced, 300)

    def test_many_by_chance(self):
        source = random.Random(53)
        for _ in range(250):
            book = some_book(source, source.randint(1, 8), source.randint(1, 20), source.choice((2, 6, 999999)))
            words = some_term(source, source.randint(1, 30))
            self.assert_table(book, words, plain_table(book, words))

    def test_as_great_as_allowed(self):
        source = random.Random(54)
        deep = ("neg",) * 119 + ("a",)
        leaning = ("neg",) + ("add",) * 59 + ("a",) * 60
        other = ("neg",) + ("sub", 1) * 59 + (7,)
        for words in (deep, leaning, other, some_term(source, 120), some_term(source, 120), some_term(source, 120)):
            self.assertEqual(len(words), 120)
            book = some_book(source, 8, 40)
            self.assertEqual([len(part) for part in book], [8, 40])
            table = plain_table(book, words)
            self.assertGreater(len(table), 100)
            self.assert_table(book, words, table)

    def test_a_long_way_from_kind_to_kind_at_each_part(self):
        kinds = "abcdefgh"
        ring = [f"r{kind} {kind} 1 = {kinds[place - 1]}" for place, kind in enumerate(kinds)]
        book = book_of(" ".join(kinds), *reversed(ring), "name h 1 = var", "sum b 1 = add a h", "turn d 1 = neg c")
        for words in (("add",) * 59 + ("x",) * 60, ("neg",) * 119 + ("x",)):
            self.assert_table(book, words, plain_table(book, words))
            self.assertEqual(len(prices(book, words)), 8 * len(words))


class WhetherATable(PricesCase):
    BOOK = book_of("reg imm", "const imm 1 = any", "move reg 2 = imm", "name reg 3 = var", "alias reg 3 = var",
                   "sum reg 4 = add reg reg", "fetch reg 3 = any", "dear reg 9 = any", "two imm 3 = add var any",
                   "plus reg 7 = add var any")
    WORDS = ("add", "a", 7)
    TABLE = [(0, "imm", 3, "two"), (0, "reg", 5, "move"), (1, "reg", 3, "name"), (2, "imm", 1, "const"),
             (2, "reg", 3, "move")]

    def assert_is(self, table, told):
        with self.subTest(table=table):
            kept = list(table)
            self.assertIs(is_table(self.BOOK, self.WORDS, table), told)
            self.assertEqual(table, kept)

    def changed(self, place, *rows):
        return self.TABLE[:place] + list(rows) + self.TABLE[place + 1:]

    def test_the_table_itself(self):
        self.assertEqual(prices(self.BOOK, self.WORDS), self.TABLE)
        self.assert_is(list(self.TABLE), True)

    def test_no_tuples(self):
        self.assert_is([], False)
        self.assertIs(is_table(((), ()), self.WORDS, []), True)
        self.assertIs(is_table(self.BOOK, ("neg", "neg", "neg", "a"), []), False)
        none = book_of("reg", "r reg 1 = neg reg")
        self.assertIs(is_table(none, self.WORDS, []), True)
        self.assertIs(is_table(none, self.WORDS, [(0, "reg", 1, "r")]), False)

    def test_a_tuple_lacking(self):
        for place in range(5):
            self.assert_is(self.changed(place), False)
        self.assert_is(self.TABLE[:2], False)

    def test_a_tuple_more(self):
        for row in ((1, "imm", 3, "name"), (1, "imm", 1, "const"), (2, "zzz", 1, "const"), (3, "reg", 3, "name"),
                    (-1, "reg", 3, "name"), (0, "", 3, "two"), (10 ** 59, "reg", 3, "name")):
            self.assert_is(sorted(self.TABLE + [row]), False)
            self.assert_is(self.TABLE + [row], False)

    def test_a_tuple_twice(self):
        for place in range(5):
            row = self.TABLE[place]
            self.assert_is(self.changed(place, row, row), False)
            self.assert_is(self.TABLE + [row], False)
            for other in range(5):
                if other != place:
                    self.assert_is(self.changed(other, row), False)
        self.assert_is(self.changed(2, (1, "reg", 3, "name"), (1, "reg", 3, "alias")), False)
        self.assert_is(self.TABLE + self.TABLE, False)

    def test_at_another_place(self):
        for place, (at, kind, price, rule) in enumerate(self.TABLE):
            for other in (at - 1, at + 1, at + 2, -1, 3, 99, -10 ** 59):
                if other != at:
                    self.assert_is(self.changed(place, (other, kind, price, rule)), False)
                    self.assert_is(sorted(self.changed(place, (other, kind, price, rule))), False)

    def test_out_of_order(self):
        for order in itertools.permutations(self.TABLE):
            self.assert_is(list(order), list(order) == self.TABLE)

    def test_another_price(self):
        for place, (at, kind, price, rule) in enumerate(self.TABLE):
            for other in (price - 1, price + 1, 0, -price, 10 ** 59):
                self.assert_is(self.changed(place, (at, kind, other, rule)), False)

    def test_a_dearer_rule_with_its_own_price(self):
        self.assert_is(self.changed(4, (2, "reg", 9, "dear")), False)
        self.assert_is(self.changed(4, (2, "reg", 3, "dear")), False)
        self.assert_is(self.changed(1, (0, "reg", 10, "sum")), False)
        self.assert_is(self.changed(1, (0, "reg", 5, "sum")), False)

    def test_all_prices_greater_in_step(self):
        # Each price follows from those below, but the lowest are not the least.
        self.assert_is([(0, "imm", 3, "two"), (0, "reg", 5, "move"), (1, "reg", 3, "name"), (2, "imm", 1, "const"),
                        (2, "reg", 9, "dear")], False)

    def test_another_rule_with_this_price(self):
        self.assert_is(self.changed(2, (1, "reg", 3, "alias")), True)
        self.assert_is(self.changed(4, (2, "reg", 3, "fetch")), True)
        both = self.changed(2, (1, "reg", 3, "alias"))
        both[4] = (2, "reg", 3, "fetch")
        self.assert_is(both, True)

    def test_a_rule_of_the_kind_that_does_not_fit_there(self):
        self.assert_is(self.changed(2, (1, "reg", 3, "fetch")), False)
        self.assert_is(self.changed(4, (2, "reg", 3, "name")), False)
        self.assert_is(self.changed(4, (2, "reg", 3, "alias")), False)

    def test_a_rule_of_another_kind(self):
        for place, (at, kind, price, rule) in enumerate(self.TABLE):
            for other in [other[0] for other in self.BOOK[1] if other[1] != kind]:
                self.assert_is(self.changed(place, (at, kind, price, other)), False)
        like = book_of("a b", "one a 2 = any", "two b 2 = any")
        self.assertIs(is_table(like, (5,), [(0, "a", 2, "one"), (0, "b", 2, "two")]), True)
        self.assertIs(is_table(like, (5,), [(0, "a", 2, "two"), (0, "b", 2, "one")]), False)
        self.assertIs(is_table(like, (5,), [(0, "a", 2, "one"), (0, "b", 2, "one")]), False)

    def test_a_name_that_is_none_of_the_books(self):
        for place, (at, kind, price, rule) in enumerate(self.TABLE):
            for other in ("none", "", kind, rule + "x", rule[:-1], rule.upper(), " ", "any"):
                self.assert_is(self.changed(place, (at, kind, price, other)), False)

    def test_another_kind(self):
        for place, (at, kind, price, rule) in enumerate(self.TABLE):
            for other in ("", "none", "REG", kind + "s", kind[:-1], "reg" if kind == "imm" else "imm", rule, "any"):
                self.assert_is(self.changed(place, (at, other, price, rule)), False)
                self.assert_is(sorted(self.changed(place, (at, other, price, rule))), False)

    def test_rules_round_in_a_ring_do_not_bear_one_another(self):
        book = book_of("a b", "ab b 1 = a", "ba a 1 = b", "num a 3 = any")
        self.assertIs(is_table(book, ("x",), []), True)
        self.assertIs(is_table(book, ("x",), [(0, "a", 1, "ba"), (0, "b", 1, "ab")]), False)
        self.assertIs(is_table(book, (5,), [(0, "a", 3, "num"), (0, "b", 4, "ab")]), True)
        self.assertIs(is_table(book, (5,), [(0, "a", 3, "ba"), (0, "b", 4, "ab")]), False)
        self.assertIs(is_table(book, (5,), [(0, "a", 5, "ba"), (0, "b", 4, "ab")]), False)

    def test_a_table_of_another_term_or_book(self):
        self.assertIs(is_table(self.BOOK, ("add", 7, "a"), self.TABLE), False)
        self.assertIs(is_table(self.BOOK, ("sub", "a", 7), self.TABLE), False)
        self.assertIs(is_table(self.BOOK, ("add", "b", 8), self.TABLE), True)
        self.assertIs(is_table((self.BOOK[0], self.BOOK[1][1:]), self.WORDS, self.TABLE), False)

    def test_many_by_chance(self):
        source = random.Random(55)
        ends = {True: 0, False: 0}
        for _ in range(400):
            book = some_book(source, source.randint(1, 4), source.randint(4, 16), 3)
            words = some_term(source, source.randint(1, 12))
            choices = plain_choices(book, words)
            for _ in range(8):
                table = [key + (number, source.choice(names)) for key, (number, names) in sorted(choices.items())]
                for _ in range(source.randint(0, 2)):
                    table = some_change(source, book, table)
                asked = plain_is_table(choices, table)
                ends[asked] += 1
                with self.subTest(book=book, words=words, table=table):
                    self.assertIs(is_table(book, words, table), asked)
        self.assertGreater(min(ends.values()), 500)


def some_change(source, book, table):
    """The list with one tuple changed, lacking, more or elsewhere."""
    row = [source.randint(-1, 12), source.choice(book[0] + ("", "x")), source.randint(0, 9), source.choice(book[1])[0]]
    if not table:
        return [tuple(row)]
    place = source.randrange(len(table))
    way = source.randrange(8)
    rest = table[:place] + table[place + 1:]
    if way < 4:
        return table[:place] + [table[place][:way] + (row[way],) + table[place][way + 1:]] + table[place + 1:]
    if way == 4:
        return rest
    if way == 5:
        return sorted(table + [tuple(row)])
    if way == 6:
        return table[:place] + [table[place]] + table[place:]
    other = source.randint(0, len(rest))
    return rest[:other] + [table[place]] + rest[other:]


if __name__ == "__main__":
    unittest.main()
