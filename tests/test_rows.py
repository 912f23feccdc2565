"""The rows of a cover: which boxes they take, what they read, and what they leave."""

import copy
import itertools
import random
import unittest

from plain import BAD_COVERS, GREAT_COVERS, TEXT, cover_tree, drawn_covers, named, ring_book, rows_of_names, written
from pricecover.books import read_book
from pricecover.covers import cheapest
from pricecover.errors import BadCover
from pricecover.machine import run
from pricecover.rows import rows_of
from pricecover.sound import sound
from pricecover.terms import read_term, worth

BOOK = sound(read_book(TEXT))


def plain_rows(root):
    """Another way than the program's: down the tree, each box as it is wanted."""
    rows = []
    fresh = itertools.count()

    def gone_through(node):
        results = [gone_through(part) for part in node[2]]
        taken = [next(fresh) for _ in named(node)]
        rows.extend(written(node, results, taken))
        return taken[0]

    return rows, gone_through(root)


class RowsCase(unittest.TestCase):
    def assert_rows(self, text, cover, rows, box, kind="reg", book=BOOK):
        words = read_term(text)
        names = tuple(cover.split(" "))
        with self.subTest(text=text, cover=cover):
            told = rows_of(book, words, kind, names)
            self.assertEqual(told, (rows, box))
            self.assertEqual((type(told), type(told[0]), type(told[1])), (tuple, list, int))
            self.assertEqual([type(row) for row in told[0]], [tuple] * len(rows))
            self.assert_worth(words, *told)

    def assert_worth(self, words, rows, box):
        source = random.Random(70)
        for most in (1, 9, 10 ** 9):
            values = {name: source.randint(-most, most) for name in words if isinstance(name, str)}
            kept = dict(values)
            self.assertEqual(run(rows, values)[box], worth(words, values))
            self.assertEqual(values, kept)

    def assert_refused(self, book, words, kind, cover):
        with self.subTest(book=book, words=words, kind=kind, cover=cover):
            with self.assertRaises(BadCover) as caught:
                rows_of(book, words, kind, cover)
            self.assertIs(type(caught.exception), BadCover)


class RowsOf(RowsCase):
    def test_rules_without_holes(self):
        self.assert_rows("5", "const", [("put", 0, 5)], 0, "imm")
        self.assert_rows("-" + "9" * 60, "const", [("put", 0, 1 - 10 ** 60)], 0, "imm")
        self.assert_rows("abc", "name", [("load", 0, "abc")], 0)
        self.assert_rows("imm", "name", [("load", 0, "imm")], 0)
        self.assert_rows("7", "seven", [("put", 0, 7)], 0)

    def test_one_hole(self):
        self.assert_rows("neg a", "turn name", [("load", 0, "a"), ("neg", 1, 0)], 1)
        self.assert_rows("neg neg a", "turn turn name", [("load", 0, "a"), ("neg", 1, 0), ("neg", 2, 1)], 2)
        self.assert_rows("5", "move const", [("put", 0, 5), ("neg", 2, 0), ("neg", 1, 2)], 1)
        self.assert_rows("a", "same same name", [("load", 0, "a"), ("put", 2, 0), ("add", 1, 2, 0), ("put", 4, 0),
                                                 ("add", 3, 4, 1)], 3)

    def test_several_holes_in_order(self):
        self.assert_rows("add a b", "sum name name", [("load", 0, "a"), ("load", 1, "b"), ("add", 2, 0, 1)], 2)
        # The deed reads its second hole first; the holes are gone through in order all the same.
        self.assert_rows("mul a b", "times name name", [("load", 0, "a"), ("load", 1, "b"), ("mul", 2, 1, 0)], 2)
        self.assert_rows("mul add a 5 b", "three name const name",
                         [("load", 0, "a"), ("put", 1, 5), ("load", 2, "b"), ("add", 4, 0, 1), ("mul", 3, 4, 2)], 3)

    def test_a_hole_whole_before_the_next(self):
        self.assert_rows("add neg a add b neg c", "sum turn name sum name turn name",
                         [("load", 0, "a"), ("neg", 1, 0), ("load", 2, "b"), ("load", 3, "c"), ("neg", 4, 3),
                          ("add", 5, 2, 4), ("add", 6, 1, 5)], 6)
        self.assert_rows("add add a b add c d", "sum sum name name sum name name",
                         [("load", 0, "a"), ("load", 1, "b"), ("add", 2, 0, 1), ("load", 3, "c"), ("load", 4, "d"),
                          ("add", 5, 3, 4), ("add", 6, 2, 5)], 6)

    def test_out_then_the_ts_in_their_order_whatever_the_order_of_the_deeds(self):
        # less names t3 ahead of t1, and no t2.
        self.assert_rows("sub a b", "less name name",
                         [("load", 0, "a"), ("load", 1, "b"), ("neg", 4, 1), ("put", 3, 0), ("add", 2, 0, 4),
                          ("add", 2, 2, 3)], 2)
        self.assert_rows("add 1 sub 2 a", "mixed",
                         [("load", 0, "a"), ("put", 1, 2), ("sub", 0, 1, 0), ("put", 1, 1), ("add", 0, 1, 0)], 0)
        self.assert_rows("sub a mul 4 b", "cross",
                         [("load", 2, "b"), ("put", 1, 4), ("mul", 1, 1, 2), ("load", 0, "a"), ("sub", 0, 0, 1)], 0)

    def test_all_orders_of_the_ts(self):
        for order in itertools.permutations(("t1", "t2", "t3")):
            for many in range(4):
                deeds = tuple(("put", box, 0) for box in order[:many]) + (("load", "out", "v1"),)
                book = sound((("reg",), (("r", "reg", 1, ("var",), deeds),)))
                places = {box: place for place, box in enumerate(sorted(order[:many]), start=1)}
                rows = [("put", places[box], 0) for box in order[:many]] + [("load", 0, "a")]
                self.assert_rows("a", "r", rows, 0, book=book)

    def test_a_t_that_is_given_behind_out(self):
        deeds = (("load", "out", "v1"), ("neg", "t2", "out"), ("neg", "t1", "t2"))
        book = sound((("reg",), (("r", "reg", 1, ("var",), deeds), ("s", "reg", 1, ("neg", "reg"),
                                                                    (("neg", "out", "h1"),)))))
        self.assert_rows("neg a", "s r", [("load", 0, "a"), ("neg", 2, 0), ("neg", 1, 2), ("neg", 3, 0)], 3, book=book)

    def test_a_rule_that_does_not_read_its_hole(self):
        self.assert_rows("mul 0 a", "nought name", [("load", 0, "a"), ("put", 1, 0)], 1)
        self.assert_rows("add mul 0 sub a b c", "sum nought less name name name",
                         [("load", 0, "a"), ("load", 1, "b"), ("neg", 4, 1), ("put", 3, 0), ("add", 2, 0, 4),
                          ("add", 2, 2, 3), ("put", 5, 0), ("load", 6, "c"), ("add", 7, 5, 6)], 7)

    def test_a_rule_that_reads_its_hole_twice(self):
        self.assert_rows("mul 2 a", "twice name", [("load", 0, "a"), ("add", 1, 0, 0)], 1)
        self.assert_rows("mul 2 mul 2 a", "twice twice name", [("load", 0, "a"), ("add", 1, 0, 0), ("add", 2, 1, 1)], 2)

    def test_a_name_that_is_not_loaded(self):
        self.assert_rows("mul a 0", "noname", [("put", 0, 0)], 0)
        self.assertEqual(run(rows_of(BOOK, ("mul", "a", 0), "reg", ("noname",))[0], {}), {0: 0})
        self.assert_rows("add mul a 0 b", "sum noname name", [("put", 0, 0), ("load", 1, "b"), ("add", 2, 0, 1)], 2)

    def test_numbers_and_names_in_order(self):
        self.assert_rows("add 10 sub 20 b", "mixed",
                         [("load", 0, "b"), ("put", 1, 20), ("sub", 0, 1, 0), ("put", 1, 10), ("add", 0, 1, 0)], 0)
        self.assert_rows("sub b mul -4 a", "cross",
                         [("load", 2, "a"), ("put", 1, -4), ("mul", 1, 1, 2), ("load", 0, "b"), ("sub", 0, 0, 1)], 0)

    def test_numbers_of_the_term_like_boxes_and_names_like_kinds(self):
        self.assert_rows("add 1 0", "sum move const move const",
                         [("put", 0, 1), ("neg", 2, 0), ("neg", 1, 2), ("put", 3, 0), ("neg", 5, 3), ("neg", 4, 5),
                          ("add", 6, 1, 4)], 6)
        self.assert_rows("add reg imm", "sum name name", [("load", 0, "reg"), ("load", 1, "imm"), ("add", 2, 0, 1)], 2)

    def test_the_same_part_of_the_words_twice(self):
        self.assert_rows("mul neg a neg a", "times turn name turn name",
                         [("load", 0, "a"), ("neg", 1, 0), ("load", 2, "a"), ("neg", 3, 2), ("mul", 4, 3, 1)], 4)

    def test_what_is_no_cover(self):
        for text, kind, cover in BAD_COVERS:
            self.assert_refused(BOOK, read_term(text), kind, tuple(cover.split(" ")) if cover else ())

    def test_all_rows_of_names_for_small_terms(self):
        for book, words, kind, cover, is_cover in rows_of_names(random.Random(71)):
            if is_cover:
                self.assert_worth(words, *rows_of(book, words, kind, cover))
            else:
                self.assert_refused(book, words, kind, cover)

    def test_many_by_chance(self):
        for book, words, kind, cover in drawn_covers(random.Random(72)):
            told = rows_of(book, words, kind, cover)
            self.assertEqual(told, plain_rows(cover_tree(book, words, 0, kind, cover)))
            self.assert_worth(words, *told)

    def test_covers_of_three_hundred_names(self):
        for words, cover in GREAT_COVERS:
            self.assertGreaterEqual(len(cover), 299)
            told = rows_of(BOOK, words, "reg", cover)
            self.assertEqual(told, plain_rows(cover_tree(BOOK, words, 0, "reg", cover)))
            self.assert_worth(words, *told)
            self.assert_refused(BOOK, words, "reg", cover + ("name",))
            self.assert_refused(BOOK, words, "reg", cover[:-1])

    def test_a_told_cover_of_more_names_is_handed_on(self):
        words = ("neg",) * 119 + ("x",)
        cover = cheapest(ring_book(), words, "a")
        rows, box = rows_of(ring_book(), words, "a", cover)
        self.assertEqual((len(cover), len(rows)), (954, 120 + 2 * 834))
        self.assertEqual(run(rows, {"x": 5})[box], -5)

    def test_what_is_told_is_the_askers_own(self):
        words = read_term("sub a neg 5")
        cover = ("less", "name", "turn", "move", "const")
        kept = copy.deepcopy((BOOK, words, cover))
        told = rows_of(BOOK, words, "reg", cover)
        again = copy.deepcopy(told)
        told[0].reverse()
        told[0].append("more")
        self.assertEqual(rows_of(BOOK, words, "reg", cover), again)
        self.assertEqual((BOOK, words, cover), kept)


if __name__ == "__main__":
    unittest.main()
