"""Few boxes: the need of a cover over all orders, and its rows with boxes used again."""

import collections
import copy
import itertools
import random
import unittest

from plain import (BAD_COVERS, GREAT_COVERS, TEXT, all_covers, cover_tree, drawn_covers, named, need_by_all_orders,
                   ring_book, rows_of_names, some_cover, some_dense_book, some_rich_book, some_term, written)
from pricecover.books import read_book
from pricecover.covers import cheapest
from pricecover.errors import BadCover
from pricecover.machine import run
from pricecover.rows import rows_of
from pricecover.sound import sound
from pricecover.terms import read_term, worth
from pricecover.tight import need, tight_rows

BOOK = sound(read_book(TEXT))


# Other ways than the program's.

def plain_need(node):
    """By all orders too, but each hole by itself, for greater covers."""
    needs = [plain_need(part) for part in node[2]]
    own = len(needs) + len(named(node))
    return min(max([own] + [held + most for held, most in enumerate(order)]) for order in itertools.permutations(needs))


def plain_tight_rows(root):
    rows = []
    in_use = set()

    def least_free():
        box = next(box for box in itertools.count() if box not in in_use)
        in_use.add(box)
        return box

    def gone_through(node):
        needs = [plain_need(part) for part in node[2]]
        results = {}
        for place in sorted(range(len(needs)), key=lambda place: (-needs[place], place)):
            results[place] = gone_through(node[2][place])
        boxes = [results[place] for place in range(len(needs))]
        taken = [least_free() for _ in named(node)]
        rows.extend(written(node, boxes, taken))
        in_use.difference_update(boxes, taken[1:])
        return taken[0]

    box = gone_through(root)
    return rows, box, plain_need(root)


def boxes_of(row):
    return row[1:2] if row[0] in ("put", "load") else row[1:]


def reckoned(rows, seen):
    """How often each thing is reckoned, told by numbers that seen keeps, so that boxes do not matter."""
    held = {}
    many = collections.Counter()
    for row in rows:
        thing = row[:1] + (row[2:] if row[0] in ("put", "load") else tuple(held[box] for box in row[2:]))
        held[row[1]] = seen.setdefault(thing, len(seen))
        many[held[row[1]]] += 1
    return many


class TightCase(unittest.TestCase):
    def assert_tight(self, text, cover, rows, box, many, kind="reg", book=BOOK):
        words = read_term(text)
        names = tuple(cover.split(" "))
        with self.subTest(text=text, cover=cover):
            told = tight_rows(book, words, kind, names)
            self.assertEqual(told, (rows, box, many))
            self.assertEqual([type(part) for part in (told,) + told], [tuple, list, int, int])
            self.assertEqual([type(row) for row in told[0]], [tuple] * len(rows))
            self.assertEqual(need_by_all_orders(cover_tree(book, words, 0, kind, names)), many)
            self.assert_good(book, words, kind, names)

    def assert_good(self, book, words, kind, cover):
        """What holds of the rows of every cover."""
        rows, box, many = tight_rows(book, words, kind, cover)
        told = need(book, words, kind, cover)
        self.assertEqual((told, type(told)), (many, int))
        named_boxes = {box for row in rows for box in boxes_of(row)}
        self.assertEqual(named_boxes, set(range(many)))
        seen = {}
        self.assertEqual(reckoned(rows, seen), reckoned(rows_of(book, words, kind, cover)[0], seen))
        source = random.Random(80)
        for most in (1, 9, 10 ** 9):
            values = {name: source.randint(-most, most) for name in words if isinstance(name, str)}
            kept = dict(values)
            self.assertEqual(run(rows, values)[box], worth(words, values))
            self.assertEqual(values, kept)

    def assert_refused(self, book, words, kind, cover):
        for asked in (need, tight_rows):
            with self.subTest(asked=asked, book=book, words=words, kind=kind, cover=cover):
                with self.assertRaises(BadCover) as caught:
                    asked(book, words, kind, cover)
                self.assertIs(type(caught.exception), BadCover)


class FewBoxes(TightCase):
    def test_rules_without_holes(self):
        self.assert_tight("5", "const", [("put", 0, 5)], 0, 1, "imm")
        self.assert_tight("abc", "name", [("load", 0, "abc")], 0, 1)
        self.assert_tight("add 1 sub 2 a", "mixed",
                          [("load", 0, "a"), ("put", 1, 2), ("sub", 0, 1, 0), ("put", 1, 1), ("add", 0, 1, 0)], 0, 2)
        self.assert_tight("sub a mul 4 b", "cross",
                          [("load", 2, "b"), ("put", 1, 4), ("mul", 1, 1, 2), ("load", 0, "a"), ("sub", 0, 0, 1)], 0, 3)

    def test_one_hole(self):
        self.assert_tight("neg a", "turn name", [("load", 0, "a"), ("neg", 1, 0)], 1, 2)
        # The hole's box is free again behind the rule, so that the boxes go to and fro.
        self.assert_tight("neg neg a", "turn turn name", [("load", 0, "a"), ("neg", 1, 0), ("neg", 0, 1)], 0, 2)
        self.assert_tight("neg neg neg a", "turn turn turn name",
                          [("load", 0, "a"), ("neg", 1, 0), ("neg", 0, 1), ("neg", 1, 0)], 1, 2)

    def test_ts_are_free_again(self):
        self.assert_tight("5", "move const", [("put", 0, 5), ("neg", 2, 0), ("neg", 1, 2)], 1, 3)
        self.assert_tight("a", "same same name", [("load", 0, "a"), ("put", 2, 0), ("add", 1, 2, 0), ("put", 2, 0),
                                                  ("add", 0, 2, 1)], 0, 3)
        self.assert_tight("neg 5", "turn move const",
                          [("put", 0, 5), ("neg", 2, 0), ("neg", 1, 2), ("neg", 0, 1)], 0, 3)

    def test_holes_that_need_alike_in_order(self):
        self.assert_tight("add a b", "sum name name", [("load", 0, "a"), ("load", 1, "b"), ("add", 2, 0, 1)], 2, 3)
        self.assert_tight("mul a b", "times name name", [("load", 0, "a"), ("load", 1, "b"), ("mul", 2, 1, 0)], 2, 3)
        self.assert_tight("add neg a neg b", "sum turn name turn name",
                          [("load", 0, "a"), ("neg", 1, 0), ("load", 0, "b"), ("neg", 2, 0), ("add", 0, 1, 2)], 0, 3)
        self.assert_tight("add sub a b sub c d", "sum less name name less name name",
                          [("load", 0, "a"), ("load", 1, "b"), ("neg", 4, 1), ("put", 3, 0), ("add", 2, 0, 4),
                           ("add", 2, 2, 3), ("load", 0, "c"), ("load", 1, "d"), ("neg", 5, 1), ("put", 4, 0),
                           ("add", 3, 0, 5), ("add", 3, 3, 4), ("add", 0, 2, 3)], 0, 6)
        self.assert_tight("mul add a 5 b", "three name const name",
                          [("load", 0, "a"), ("put", 1, 5), ("load", 2, "b"), ("add", 4, 0, 1), ("mul", 3, 4, 2)], 3, 5)

    def test_holes_that_need_unlike_in_either_order(self):
        less = [("load", 0, "b"), ("load", 1, "c"), ("neg", 4, 1), ("put", 3, 0), ("add", 2, 0, 4), ("add", 2, 2, 3)]
        self.assert_tight("add a sub b c", "sum name less name name", less + [("load", 0, "a"), ("add", 1, 0, 2)], 1, 5)
        self.assert_tight("add sub b c a", "sum less name name name", less + [("load", 0, "a"), ("add", 1, 2, 0)], 1, 5)
        turn = [("load", 0, "b"), ("neg", 1, 0)]
        self.assert_tight("add a neg b", "sum name turn name", turn + [("load", 0, "a"), ("add", 2, 0, 1)], 2, 3)
        self.assert_tight("add neg b a", "sum turn name name", turn + [("load", 0, "a"), ("add", 2, 1, 0)], 2, 3)

    def test_three_holes_by_their_needs(self):
        self.assert_tight("mul add a 5 neg b", "three name const turn name",
                          [("load", 0, "b"), ("neg", 1, 0), ("load", 0, "a"), ("put", 2, 5), ("add", 4, 0, 2),
                           ("mul", 3, 4, 1)], 3, 5)
        self.assert_tight("mul add neg a 5 sub b c", "three turn name const less name name",
                          [("load", 0, "b"), ("load", 1, "c"), ("neg", 4, 1), ("put", 3, 0), ("add", 2, 0, 4),
                           ("add", 2, 2, 3), ("load", 0, "a"), ("neg", 1, 0), ("put", 0, 5), ("add", 4, 1, 0),
                           ("mul", 3, 4, 2)], 3, 5)

    def test_all_orders_of_holes_that_need_one_to_four(self):
        # The hole named k needs k boxes.
        rules = [("w" + kind, kind, 1, ("var",), tuple(("put", box, 0) for box in ("t1", "t2", "t3")[:place])
                  + (("load", "out", "v1"),)) for place, kind in enumerate("abcd")]
        for order in itertools.permutations("abcd"):
            shape = ("add", "add", order[0], order[1], "add", order[2], order[3])
            deeds = (("add", "out", "h1", "h2"), ("add", "out", "out", "h3"), ("add", "out", "out", "h4"))
            book = sound((("a", "b", "c", "d", "all"), tuple(rules) + (("top", "all", 1, shape, deeds),)))
            names = ("top",) + tuple("w" + kind for kind in order)
            words = read_term("add add w x add y z")
            rows, box, many = tight_rows(book, words, "all", names)
            loaded = [row[2] for row in rows if row[0] == "load"]
            self.assertEqual(loaded, ["wxyz"[order.index(kind)] for kind in "dcba"])
            self.assertEqual((box, many), (4, 5))
            self.assert_good(book, words, "all", names)

    def test_the_needs_of_holes_and_not_their_sizes_count(self):
        # Many rules that need two boxes against one that needs five, and one name against these.
        self.assert_tight("add neg neg neg neg neg a sub b c", "sum turn turn turn turn turn name less name name",
                          [("load", 0, "b"), ("load", 1, "c"), ("neg", 4, 1), ("put", 3, 0), ("add", 2, 0, 4),
                           ("add", 2, 2, 3), ("load", 0, "a"), ("neg", 1, 0), ("neg", 0, 1), ("neg", 1, 0),
                           ("neg", 0, 1), ("neg", 1, 0), ("add", 0, 1, 2)], 0, 5)

    def test_a_hole_that_is_not_read_is_held_all_the_same(self):
        self.assert_tight("mul 0 a", "nought name", [("load", 0, "a"), ("put", 1, 0)], 1, 2)
        self.assert_tight("add mul 0 a b", "sum nought name name",
                          [("load", 0, "a"), ("put", 1, 0), ("load", 0, "b"), ("add", 2, 1, 0)], 2, 3)

    def test_a_hole_that_is_read_twice(self):
        self.assert_tight("mul 2 mul 2 a", "twice twice name", [("load", 0, "a"), ("add", 1, 0, 0), ("add", 0, 1, 1)],
                          0, 2)

    def test_a_name_that_is_not_loaded(self):
        self.assert_tight("mul a 0", "noname", [("put", 0, 0)], 0, 1)

    def test_each_box_is_the_least_free_one(self):
        # Held are 1 and 2 in turn: the free ones lie between and behind them.
        self.assert_tight("add neg a sub neg b neg c", "sum turn name less turn name turn name",
                          [("load", 0, "b"), ("neg", 1, 0), ("load", 0, "c"), ("neg", 2, 0), ("neg", 4, 2),
                           ("put", 3, 0), ("add", 0, 1, 4), ("add", 0, 0, 3), ("load", 1, "a"), ("neg", 2, 1),
                           ("add", 1, 2, 0)], 1, 5)

    def test_needs_of_full_trees_of_sums(self):
        words, cover = ("a",), ("name",)
        for depth in range(1, 6):
            words, cover = ("add",) + words + words, ("sum",) + cover + cover
            self.assertEqual(need(BOOK, words, "reg", cover), depth + 2)
            self.assert_good(BOOK, words, "reg", cover)

    def test_leaning_sums_need_three(self):
        for words, cover in ((("add",) * 59 + ("a",) * 60, ("sum",) * 59 + ("name",) * 60),
                             (("add", "a") * 59 + ("a",), ("sum", "name") * 59 + ("name",))):
            self.assertEqual(need(BOOK, words, "reg", cover), 3)
            self.assert_good(BOOK, words, "reg", cover)

    def test_what_is_no_cover(self):
        for text, kind, cover in BAD_COVERS:
            self.assert_refused(BOOK, read_term(text), kind, tuple(cover.split(" ")) if cover else ())

    def test_covers_of_small_terms_by_all_orders(self):
        source = random.Random(81)
        found = 0
        for _ in range(120):
            book = some_dense_book(source, source.randint(1, 2), source.randint(6, 12))
            words = some_term(source, source.randint(2, 7))
            covers = all_covers(book, words, 0, book[0][0], 8)
            for cover in source.sample(covers, min(20, len(covers))):
                found += 1
                root = cover_tree(book, words, 0, book[0][0], cover)
                self.assertEqual(need(book, words, book[0][0], cover), need_by_all_orders(root))
                self.assertEqual(tight_rows(book, words, book[0][0], cover), plain_tight_rows(root))
                self.assert_good(book, words, book[0][0], cover)
        self.assertGreater(found, 300)

    def test_many_by_chance_by_all_orders(self):
        source = random.Random(82)
        found = 0
        for _ in range(250):
            book = some_rich_book(source, source.randint(1, 3), source.randint(6, 16))
            words = some_term(source, source.randint(5, 13))
            for kind in book[0]:
                cover = some_cover(source, book, words, 0, kind, 5)
                if cover is not None and len(cover) <= 12:
                    found += 1
                    root = cover_tree(book, words, 0, kind, cover)
                    self.assertEqual(need(book, words, kind, cover), need_by_all_orders(root))
        self.assertGreater(found, 150)

    def test_many_by_chance(self):
        for book, words, kind, cover in drawn_covers(random.Random(83)):
            told = tight_rows(book, words, kind, cover)
            self.assertEqual(told, plain_tight_rows(cover_tree(book, words, 0, kind, cover)))
            self.assert_good(book, words, kind, cover)

    def test_all_rows_of_names_for_small_terms(self):
        for book, words, kind, cover, is_cover in rows_of_names(random.Random(84)):
            if is_cover:
                self.assert_good(book, words, kind, cover)
            else:
                self.assert_refused(book, words, kind, cover)

    def test_covers_of_three_hundred_names(self):
        for words, cover in GREAT_COVERS:
            self.assertEqual(tight_rows(BOOK, words, "reg", cover),
                             plain_tight_rows(cover_tree(BOOK, words, 0, "reg", cover)))
            self.assert_good(BOOK, words, "reg", cover)
            self.assert_refused(BOOK, words, "reg", cover + ("name",))
            self.assert_refused(BOOK, words, "reg", cover[:-1])

    def test_a_told_cover_of_more_names_is_handed_on(self):
        words = ("neg",) * 119 + ("x",)
        cover = cheapest(ring_book(), words, "a")
        self.assertEqual(len(cover), 954)
        self.assertEqual(need(ring_book(), words, "a", cover), 3)
        self.assert_good(ring_book(), words, "a", cover)

    def test_what_is_told_is_the_askers_own(self):
        words = read_term("sub a neg 5")
        cover = ("less", "name", "turn", "move", "const")
        kept = copy.deepcopy((BOOK, words, cover))
        told = tight_rows(BOOK, words, "reg", cover)
        again = copy.deepcopy(told)
        told[0].reverse()
        told[0].append("more")
        self.assertEqual(tight_rows(BOOK, words, "reg", cover), again)
        self.assertEqual(need(BOOK, words, "reg", cover), again[2])
        self.assertEqual((BOOK, words, cover), kept)


if __name__ == "__main__":
    unittest.main()
