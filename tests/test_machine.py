"""The machine: rows that are run, the boxes they leave, and the row that fails first."""

import copy
import random
import unittest

from pricecover.errors import NoBox, NoValue
from pricecover.machine import run

GREAT = 10 ** 60 - 1


def plainly_run(rows, values):
    """What the boxes hold at the end, or the refusal: another way than the program's, by one case a deed."""
    held = {}
    for row in rows:
        deed, box = row[0], row[1]
        if deed == "put":
            held[box] = row[2]
        elif deed == "load":
            if row[2] not in values:
                return ("NoValue", row[2])
            held[box] = values[row[2]]
        elif any(source not in held for source in row[2:]):
            return "NoBox"
        elif deed == "neg":
            held[box] = 0 - held[row[2]]
        else:
            one, other = held[row[2]], held[row[3]]
            held[box] = {"add": one + other, "sub": one - other, "mul": one * other}[deed]
    return held


class MachineCase(unittest.TestCase):
    def assert_run(self, rows, values, boxes):
        with self.subTest(rows=rows, values=values):
            told = run(rows, values)
            self.assertEqual(told, boxes)
            self.assertIs(type(told), dict)

    def assert_no_box(self, rows, values):
        with self.subTest(rows=rows, values=values):
            with self.assertRaises(NoBox):
                run(rows, values)

    def assert_no_value(self, rows, values, word):
        with self.subTest(rows=rows, values=values):
            with self.assertRaises(NoValue) as refused:
                run(rows, values)
            self.assertEqual(refused.exception.word, word)


class Running(MachineCase):
    def test_no_rows(self):
        self.assert_run([], {}, {})
        self.assert_run([], {"a": 1}, {})

    def test_each_deed(self):
        first = [("put", 0, 7), ("load", 1, "a")]
        for row, number in (
            (("put", 2, 9), 9),
            (("put", 2, -9), -9),
            (("put", 2, 0), 0),
            (("load", 2, "a"), -3),
            (("load", 2, "longname"), 0),
            (("add", 2, 0, 1), 4),
            (("sub", 2, 0, 1), 10),
            (("sub", 2, 1, 0), -10),
            (("mul", 2, 0, 1), -21),
            (("neg", 2, 0), -7),
            (("neg", 2, 1), 3),
        ):
            self.assert_run(first + [row], {"a": -3, "longname": 0}, {0: 7, 1: -3, 2: number})

    def test_one_box_read_twice(self):
        for deed, number in (("add", 10), ("sub", 0), ("mul", 25)):
            self.assert_run([("put", 4, 5), (deed, 1, 4, 4)], {}, {4: 5, 1: number})

    def test_a_row_that_reads_its_own_full_box(self):
        for row, number in (
            (("add", 0, 0, 0), 10),
            (("sub", 0, 0, 0), 0),
            (("mul", 0, 0, 0), 25),
            (("neg", 0, 0), -5),
            (("add", 0, 0, 1), 8),
            (("sub", 0, 0, 1), 2),
            (("sub", 0, 1, 0), -2),
            (("mul", 0, 1, 0), 15),
        ):
            self.assert_run([("put", 0, 5), ("put", 1, 3), row], {}, {0: number, 1: 3})

    def test_a_full_box_is_filled_again(self):
        self.assert_run([("put", 0, 5), ("put", 0, 6)], {}, {0: 6})
        self.assert_run([("put", 0, 5), ("load", 0, "a")], {"a": 1}, {0: 1})
        self.assert_run([("put", 0, 5), ("neg", 1, 0), ("put", 0, 8), ("add", 2, 0, 1)], {}, {0: 8, 1: -5, 2: 3})

    def test_nought_fills_a_box(self):
        self.assert_run([("put", 0, 0), ("neg", 1, 0), ("load", 2, "a"), ("mul", 3, 1, 2)], {"a": 0},
                        {0: 0, 1: 0, 2: 0, 3: 0})

    def test_boxes_numbered_by_many_figures(self):
        low = 10 ** 59
        self.assert_run([("put", GREAT, 4), ("put", low, 5), ("sub", GREAT - 1, GREAT, low), ("neg", 0, GREAT - 1)], {},
                        {GREAT: 4, low: 5, GREAT - 1: -1, 0: 1})
        self.assert_no_box([("put", GREAT, 4), ("neg", 0, GREAT - 1)], {})

    def test_numbers_of_many_figures(self):
        rows = [("put", 0, GREAT), ("load", 1, "a"), ("mul", 2, 0, 1), ("sub", 3, 1, 0)]
        self.assert_run(rows, {"a": -GREAT}, {0: GREAT, 1: -GREAT, 2: -GREAT * GREAT, 3: -2 * GREAT})
        squares = [("put", 0, GREAT)] + [("mul", 0, 0, 0)] * 5
        self.assert_run(squares, {}, {0: GREAT ** 32})

    def test_a_name_like_a_word_of_the_rows(self):
        self.assert_run([("load", 0, "adds"), ("load", 1, "kind")], {"adds": 2, "kind": 3}, {0: 2, 1: 3})

    def test_rows_in_a_tuple_run_alike(self):
        self.assert_run((("put", 0, 5), ("neg", 1, 0)), {}, {0: 5, 1: -5})


class Failing(MachineCase):
    def test_an_empty_box(self):
        for row in (("neg", 0, 1), ("add", 0, 1, 2), ("add", 0, 2, 1), ("sub", 0, 1, 2), ("sub", 0, 2, 1),
                    ("mul", 0, 1, 2), ("mul", 0, 2, 1), ("add", 2, 1, 1), ("mul", 0, 3, 4)):
            self.assert_no_box([("put", 2, 0), row], {"a": 1})

    def test_a_row_that_reads_its_own_empty_box(self):
        for row in (("neg", 0, 0), ("add", 0, 0, 0), ("add", 0, 0, 1), ("sub", 0, 1, 0), ("mul", 0, 0, 1)):
            self.assert_no_box([("put", 1, 4), row], {})
            self.assert_no_box([("put", 1, 4), row, ("put", 0, 4)], {})

    def test_a_box_filled_only_later(self):
        self.assert_no_box([("neg", 1, 0), ("put", 0, 5)], {})
        self.assert_no_box([("put", 1, 5), ("add", 2, 1, 0), ("load", 0, "a")], {"a": 5})

    def test_a_name_without_a_value(self):
        self.assert_no_value([("load", 0, "a")], {}, "a")
        self.assert_no_value([("load", 0, "b")], {"a": 1}, "b")
        self.assert_no_value([("load", 0, "ab")], {"a": 1, "b": 1}, "ab")
        self.assert_no_value([("put", 0, 1), ("load", 0, "b")], {"a": 1}, "b")
        self.assert_no_value([("load", 0, "a"), ("load", 1, "b"), ("load", 2, "c")], {"a": 1, "c": 1}, "b")

    def test_the_first_row_that_fails(self):
        for rows, word in (
            ([("load", 0, "b"), ("load", 1, "a")], "b"),
            ([("load", 0, "a"), ("load", 1, "b")], "a"),
            ([("load", 0, "a"), ("neg", 1, 9)], "a"),
            ([("put", 0, 1), ("load", 1, "z"), ("add", 2, 0, 1)], "z"),
            ([("load", 0, "x"), ("neg", 1, 0), ("load", 2, "y")], "x"),
            ([("put", 0, 1), ("neg", 1, 0), ("load", 2, "y"), ("neg", 3, 3), ("load", 4, "x")], "y"),
        ):
            self.assert_no_value(rows, {"c": 1}, word)
        for rows in (
            [("neg", 1, 9), ("load", 0, "a")],
            [("put", 0, 1), ("add", 2, 0, 1), ("load", 1, "z")],
            [("load", 0, "c"), ("mul", 0, 0, 1), ("load", 1, "a"), ("load", 2, "b")],
        ):
            self.assert_no_box(rows, {"c": 1})

    def test_the_refusals_are_not_one_another(self):
        with self.assertRaises(NoBox) as refused:
            run([("neg", 0, 0)], {})
        self.assertNotIsInstance(refused.exception, NoValue)
        with self.assertRaises(NoValue) as refused:
            run([("load", 0, "a")], {})
        self.assertNotIsInstance(refused.exception, NoBox)


class Staying(MachineCase):
    def test_rows_and_values_stay(self):
        values = {"b": 2, "a": 1}
        for rows in ([("load", 0, "a"), ("add", 0, 0, 0), ("load", 1, "b")], [("load", 0, "a"), ("neg", 0, 9)],
                     [("load", 0, "b"), ("load", 0, "c")]):
            kept = copy.deepcopy(rows)
            try:
                run(rows, values)
            except (NoBox, NoValue):
                pass
            self.assertEqual(rows, kept)
            self.assertEqual(list(values.items()), [("b", 2), ("a", 1)])

    def test_the_dict_is_the_askers_own(self):
        for rows, boxes in (([], {}), ([("put", 0, 5), ("neg", 3, 0)], {0: 5, 3: -5})):
            told = run(rows, {})
            again = run(rows, {})
            told[0] = 99
            told[77] = 1
            self.assertEqual(again, boxes)
            self.assertEqual(run(rows, {}), boxes)

    def test_nothing_is_kept_of_what_was_handed_in(self):
        rows = [("load", 0, "a")]
        values = {"a": 3}
        told = run(rows, values)
        values["a"] = 8
        rows.append(("put", 1, 1))
        self.assertEqual(told, {0: 3})
        self.assertEqual(run(rows, values), {0: 8, 1: 1})
        values.clear()
        self.assert_no_value(rows, values, "a")

    def test_boxes_are_empty_at_first_each_time(self):
        run([("put", 0, 5)], {})
        self.assert_no_box([("neg", 1, 0)], {})


class Many(MachineCase):
    def test_400_rows(self):
        rows = [("put", 0, 1)] + [("add", place, place - 1, place - 1) for place in range(1, 400)]
        self.assert_run(rows, {}, {place: 2 ** place for place in range(400)})
        self.assert_run([("put", 0, 0), ("put", 1, 1)] + [("sub", 0, 1, 0)] * 398, {}, {0: 0, 1: 1})
        self.assert_no_box([("put", 0, 1)] + [("neg", 0, 0)] * 398 + [("neg", 0, 1)], {})
        self.assert_no_value([("load", 0, "a")] * 399 + [("load", 0, "b")], {"a": 1}, "b")

    def test_many_rows_by_chance(self):
        source = random.Random(21)
        ends = {"NoBox": 0, "NoValue": 0, "fine": 0}
        for turn in range(1500):
            boxes = range(source.randint(1, 6))
            names = source.choice((("a", "b"), ("a", "b", "c", "d")))
            rows = [("put", box, source.randint(-9, 9)) for box in boxes[turn % 3:]]
            for _ in range(394 if turn % 100 == 0 else source.randint(0, 12)):
                deed = source.choice(("put", "load", "add", "sub", "neg") + (("mul",) if turn % 100 else ()))
                box = source.choice(boxes)
                if deed == "put":
                    rows.append((deed, box, source.randint(-9, 9)))
                elif deed == "load":
                    rows.append((deed, box, source.choice(names)))
                else:
                    many = 1 if deed == "neg" else 2
                    rows.append((deed, box) + tuple(source.choice(boxes) for _ in range(many)))
            values = {"a": 5, "b": -7, "c": 0}
            asked = plainly_run(rows, values)
            if asked == "NoBox":
                self.assert_no_box(rows, values)
                ends["NoBox"] += 1
            elif isinstance(asked, tuple):
                self.assert_no_value(rows, values, asked[1])
                ends["NoValue"] += 1
            else:
                self.assert_run(rows, values, asked)
                ends["fine"] += 1
        self.assertGreater(min(ends.values()), 100)


if __name__ == "__main__":
    unittest.main()
