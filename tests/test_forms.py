"""Normal forms: their order, sums, differences, products, worth, and parting values."""

import itertools
import random
import unittest

from pricecover.errors import NoValue
from pricecover.forms import form_of, form_worth, minus, parting, plus, times
from pricecover.terms import read_term, worth

TWENTY = tuple("abcdefghijklmnopqrst")


def of(text):
    return form_of(read_term(text))


def some_form(source, names, many, longest, greatest=9):
    """A normal form of so many rows, of at most so many names each."""
    rows = {}
    while len(rows) < many:
        row = tuple(sorted(source.choices(names, k=source.randint(0, longest))))
        rows[row] = source.choice((-1, 1)) * source.randint(1, greatest)
    return tuple(sorted(rows.items()))


def full_form(source, names, many, longest):
    """A normal form of so many rows, each of just so many names, with factors of sixty figures."""
    rows = {}
    while len(rows) < many:
        row = tuple(sorted(source.choices(names, k=longest)))
        rows[row] = source.choice((-1, 1)) * source.randint(10 ** 59, 10 ** 60 - 1)
    return tuple(sorted(rows.items()))


def names_of(*forms):
    return {name for form in forms for names, _ in form for name in names}


def most_of(*forms):
    return max([names.count(name) for form in forms for names, _ in form for name in names], default=0)


def naive_worth(form, values):
    total = 0
    for names, factor in form:
        for name in names:
            factor *= values[name]
        total += factor
    return total


class FormCase(unittest.TestCase):
    def assert_normal(self, form):
        self.assertIs(type(form), tuple)
        for row in form:
            self.assertIs(type(row), tuple)
            names, factor = row
            self.assertIs(type(names), tuple)
            self.assertEqual(list(names), sorted(names))
            self.assertIs(type(factor), int)
            self.assertNotEqual(factor, 0)
        rows = [names for names, _ in form]
        self.assertEqual(rows, sorted(set(rows)))

    def assert_parting(self, one, other):
        values = parting(one, other)
        self.assertIs(type(values), dict)
        self.assertEqual(set(values), names_of(one, other))
        most = most_of(one, other)
        for value in values.values():
            self.assertIs(type(value), int)
            self.assertIn(value, range(most + 1))
        self.assertNotEqual(naive_worth(one, values), naive_worth(other, values))


class FormOf(FormCase):
    def test_leaves(self):
        self.assertEqual(of("0"), ())
        self.assertEqual(of("7"), (((), 7),))
        self.assertEqual(of("-7"), (((), -7),))
        self.assertEqual(of("a"), ((("a",), 1),))
        self.assertEqual(form_of(("h1",)), ((("h1",), 1),))

    def test_ordinary(self):
        for text, form in (
            ("add a b", ((("a",), 1), (("b",), 1))),
            ("add b a", ((("a",), 1), (("b",), 1))),
            ("sub b a", ((("a",), -1), (("b",), 1))),
            ("mul b a", ((("a", "b"), 1),)),
            ("neg a", ((("a",), -1),)),
            ("neg -3", (((), 3),)),
            ("add a a", ((("a",), 2),)),
            ("mul a a", ((("a", "a"), 1),)),
            ("mul a mul b a", ((("a", "a", "b"), 1),)),
            ("mul add a 1 sub a 1", (((), -1), (("a", "a"), 1))),
            ("mul add a b add a b", ((("a", "a"), 1), (("a", "b"), 2), (("b", "b"), 1))),
            ("add a 5", (((), 5), (("a",), 1))),
            ("mul 3 mul a -4", ((("a",), -12),)),
            ("mul add a 2 add b 3", (((), 6), (("a",), 3), (("a", "b"), 1), (("b",), 2))),
        ):
            with self.subTest(text=text):
                self.assertEqual(of(text), form)

    def test_nought(self):
        for text in ("0", "neg 0", "sub a a", "mul 0 a", "mul a 0", "add a neg a", "add 1 -1", "sub mul a b mul b a",
                     "mul sub a a b", "neg sub 3 3", "add 0 0"):
            with self.subTest(text=text):
                self.assertEqual(of(text), ())

    def test_names_that_begin_alike(self):
        self.assertEqual(of("add ab mul a b"), ((("a", "b"), 1), (("ab",), 1)))
        self.assertEqual(of("mul ab a"), ((("a", "ab"), 1),))
        self.assertEqual(of("mul aa mul a aaa"), ((("a", "aa", "aaa"), 1),))
        self.assertEqual(of("add aa add mul a a a"), ((("a",), 1), (("a", "a"), 1), (("aa",), 1)))
        self.assertEqual(of("add mul ab c mul a bc"), ((("a", "bc"), 1), (("ab", "c"), 1)))

    def test_rows_are_sorted_as_tuples_are(self):
        self.assertEqual(of("add b add 1 mul a mul a a"), (((), 1), (("a", "a", "a"), 1), (("b",), 1)))
        self.assertEqual(of("add mul b c add mul a z c"), ((("a", "z"), 1), (("b", "c"), 1), (("c",), 1)))

    def test_terms_of_twelve_words(self):
        for text, form in (
            ("mul a mul a mul a mul a mul a neg a", ((("a",) * 6, -1),)),
            ("neg mul add a 1 mul add a 2 add a 3", (((), -6), (("a",), -11), (("a", "a"), -6), (("a",) * 3, -1))),
            ("neg " * 11 + "a", ((("a",), -1),)),
            ("neg neg neg add add add add a b c d e", tuple(((name,), -1) for name in "abcde")),
            ("neg mul add a b mul add c d add e f",
             tuple(((x, y, z), -1) for x in "ab" for y in "cd" for z in "ef")),
            ("neg sub " + "9" * 60 + " mul " + "9" * 60 + " add " + "9" * 60 + " mul a mul b c",
             (((), (10 ** 60 - 1) ** 2 - 10 ** 60 + 1), (("a", "b", "c"), 10 ** 60 - 1))),
        ):
            with self.subTest(text=text):
                self.assertEqual(len(text.split(" ")), 12)
                self.assertEqual(of(text), form)

    def test_all_short_terms_are_of_like_form_just_where_of_like_worth(self):
        grid = [{"a": a, "b": b} for a in range(4) for b in range(4)]
        terms = {1: [("a",), ("b",), (0,), (1,), (-2,)]}
        for many in range(2, 6):
            terms[many] = [("neg",) + term for term in terms[many - 1]]
            for first in range(1, many - 1):
                for pair in itertools.product(terms[first], terms[many - 1 - first]):
                    terms[many] += [(word,) + pair[0] + pair[1] for word in ("add", "sub", "mul")]
        form_by_worths = {}
        worths_by_form = {}
        for term in itertools.chain.from_iterable(terms.values()):
            form = form_of(term)
            self.assert_normal(form)
            worths = tuple(worth(term, values) for values in grid)
            self.assertEqual(tuple(naive_worth(form, values) for values in grid), worths)
            self.assertEqual(form_by_worths.setdefault(worths, form), form)
            self.assertEqual(worths_by_form.setdefault(form, worths), worths)

    def test_many_terms_of_twelve_words(self):
        source = random.Random(7)

        def term(many):
            if many == 1:
                return (source.choice(["a", "b", "ab", "c", 0, 1, -5, 10 ** 59]),)
            if many == 2:
                return ("neg",) + term(1)
            first = source.randint(1, many - 2)
            return (source.choice(["add", "sub", "mul", "mul"]),) + term(first) + term(many - 1 - first)

        for _ in range(500):
            words = term(source.choice((11, 12)))
            form = form_of(words)
            self.assert_normal(form)
            for _ in range(5):
                values = {name: source.randint(-10 ** 6, 10 ** 6) for name in ("a", "b", "ab", "c")}
                self.assertEqual(form_worth(form, values), worth(words, values))


class Sums(FormCase):
    def test_ordinary(self):
        one = ((("a",), 2), (("a", "b"), -1))
        other = (((), 5), (("a",), -2), (("b",), 3))
        self.assertEqual(plus(one, other), (((), 5), (("a", "b"), -1), (("b",), 3)))
        self.assertEqual(minus(one, other), (((), -5), (("a",), 4), (("a", "b"), -1), (("b",), -3)))
        self.assertEqual(minus(other, one), (((), 5), (("a",), -4), (("a", "b"), 1), (("b",), 3)))
        self.assertEqual(times(one, other), (
            (("a",), 10), (("a", "a"), -4), (("a", "a", "b"), 2), (("a", "b"), 1), (("a", "b", "b"), -3)))

    def test_with_nought(self):
        form = (((), 5), (("a",), -2))
        self.assertEqual(plus(form, ()), form)
        self.assertEqual(plus((), form), form)
        self.assertEqual(minus(form, ()), form)
        self.assertEqual(minus((), form), (((), -5), (("a",), 2)))
        self.assertEqual(minus(form, form), ())
        self.assertEqual(times(form, ()), ())
        self.assertEqual(times((), form), ())
        for told in (plus((), ()), minus((), ()), times((), ())):
            self.assertEqual(told, ())
            self.assertIs(type(told), tuple)

    def test_rows_that_vanish(self):
        below, above = of("sub a b"), of("add a b")
        self.assertEqual(times(below, above), ((("a", "a"), 1), (("b", "b"), -1)))
        self.assertEqual(plus(below, above), ((("a",), 2),))
        self.assertEqual(minus(below, above), ((("b",), -2),))

    def test_names_are_sorted_in_a_product(self):
        self.assertEqual(times(((("b", "d"), 2),), ((("a", "b", "c"), 3),)), ((("a", "b", "b", "c", "d"), 6),))
        self.assertEqual(times(((("ab",), 1),), ((("a", "b"), 1),)), ((("a", "ab", "b"), 1),))

    def test_many_rows(self):
        source = random.Random(8)
        for many in (1, 2, 10, 40, 200):
            one = some_form(source, TWENTY + ("aa", "ab"), many, 16)
            other = some_form(source, TWENTY + ("aa", "ab"), many, 16)
            for told, deed in ((plus(one, other), lambda x, y: x + y), (minus(one, other), lambda x, y: x - y),
                               (times(one, other), lambda x, y: x * y)):
                self.assert_normal(told)
                for _ in range(2):
                    values = {name: source.randint(-10 ** 9, 10 ** 9) for name in names_of(one, other)}
                    self.assertEqual(naive_worth(told, values),
                                     deed(naive_worth(one, values), naive_worth(other, values)))

    def test_few_names_so_that_many_rows_fall_together(self):
        source = random.Random(9)
        for _ in range(200):
            one = some_form(source, ("a", "b"), source.randint(0, 8), 4, 2)
            other = some_form(source, ("a", "b"), source.randint(0, 8), 4, 2)
            for told, deed in ((plus(one, other), lambda x, y: x + y), (minus(one, other), lambda x, y: x - y),
                               (times(one, other), lambda x, y: x * y)):
                self.assert_normal(told)
                values = {"a": 1000, "b": 10 ** 30}
                self.assertEqual(naive_worth(told, values), deed(naive_worth(one, values), naive_worth(other, values)))
            self.assertEqual(plus(minus(one, other), other), one)
            self.assertEqual(times(one, other), times(other, one))

    def test_factors_of_many_figures(self):
        great = 10 ** 60 - 1
        one = (((), great), (("a",), -great))
        self.assertEqual(times(one, one), (((), great ** 2), (("a",), -2 * great ** 2), (("a", "a"), great ** 2)))
        self.assertEqual(plus(one, one), (((), 2 * great), (("a",), -2 * great)))

    def test_what_is_told_may_be_handed_on(self):
        source = random.Random(10)
        one = full_form(source, TWENTY, 200, 16)
        other = full_form(source, TWENTY, 200, 16)
        product = times(one, other)
        self.assertGreater(len(product), 200)
        self.assert_normal(product)
        self.assertEqual(minus(product, times(other, one)), ())
        self.assertIsNone(parting(product, times(other, one)))
        self.assert_parting(product, plus(product, (((), 1),)))
        values = {name: place - 9 for place, name in enumerate(TWENTY)}
        self.assertEqual(form_worth(product, values), form_worth(one, values) * form_worth(other, values))


class FormWorth(unittest.TestCase):
    def test_ordinary(self):
        form = (((), -4), (("a",), 3), (("a", "a", "b"), 2))
        self.assertEqual(form_worth(form, {"a": 5, "b": -1}), -39)
        self.assertEqual(form_worth(form, {"a": 0, "b": 0, "c": 9}), -4)
        self.assertEqual(form_worth((((), 8),), {}), 8)
        self.assertEqual(form_worth((), {}), 0)
        self.assertIs(type(form_worth((), {"a": 1})), int)

    def test_many_figures(self):
        great = 10 ** 60 - 1
        self.assertEqual(form_worth(((("a",) * 16, great),), {"a": -great}), great ** 17)
        self.assertEqual(form_worth(((("a",) * 15, great),), {"a": -great}), -great ** 16)

    def test_the_first_lacking_name_row_by_row(self):
        form = (((), 1), (("a", "z"), 1), (("b",), 1), (("b", "c", "d"), 1))
        for values, word in (
            ({}, "a"),
            ({"a": 0}, "z"),
            ({"a": 1, "z": 1}, "b"),
            ({"a": 1, "z": 1, "b": 1}, "c"),
            ({"a": 0, "z": 0, "b": 0, "c": 0}, "d"),
            ({"b": 1, "c": 1, "d": 1}, "a"),
            ({"a": 1, "b": 1, "c": 1, "d": 1}, "z"),
        ):
            with self.subTest(values=values):
                with self.assertRaises(NoValue) as refused:
                    form_worth(form, values)
                self.assertEqual(refused.exception.word, word)
        self.assertEqual(form_worth(form, {"a": 1, "z": 2, "b": 3, "c": 4, "d": 5}), 66)

    def test_names_that_begin_alike_lack(self):
        with self.assertRaises(NoValue) as refused:
            form_worth(((("a", "b"), 1), (("ab",), 1)), {"a": 1, "b": 1})
        self.assertEqual(refused.exception.word, "ab")

    def test_the_values_stay(self):
        values = {"b": 2, "a": 1}
        form_worth(((("a", "b"), 1),), values)
        with self.assertRaises(NoValue):
            form_worth(((("a", "c"), 1),), values)
        self.assertEqual(list(values.items()), [("b", 2), ("a", 1)])


class Parting(FormCase):
    def test_like_ones(self):
        source = random.Random(11)
        self.assertIsNone(parting((), ()))
        for many in (1, 2, 10, 200):
            form = some_form(source, TWENTY, many, 16)
            self.assertIsNone(parting(form, form))
            self.assertIsNone(parting(form, tuple((tuple(list(names)), factor) for names, factor in form)))
        self.assertIsNone(parting(of("mul add a b sub a b"), of("sub mul a a mul b b")))

    def test_without_names(self):
        self.assertEqual(parting((), (((), 1),)), {})
        self.assertEqual(parting((((), 1),), ()), {})
        self.assertEqual(parting((((), 1),), (((), 2),)), {})

    def test_all_pairs_of_small_forms(self):
        rows = ((), ("a",), ("a", "a"), ("a", "b"))
        forms = [tuple((names, factor) for names, factor in zip(rows, factors) if factor != 0)
                 for factors in itertools.product((-1, 0, 1), repeat=4)]
        for one, other in itertools.product(forms, repeat=2):
            if one == other:
                self.assertIsNone(parting(one, other))
            else:
                self.assert_parting(one, other)

    def test_nought_for_many_values(self):
        form = of("mul a mul sub a 1 sub a 2")
        self.assertEqual(parting(form, ()), {"a": 3})
        self.assertEqual(parting((), form), {"a": 3})
        self.assert_parting(form, form[1:])
        shifted = plus(form, of("b"))
        self.assertEqual(parting(shifted, of("b"))["a"], 3)
        self.assert_parting(shifted, of("b"))

    def test_nought_for_all_values_but_the_greatest(self):
        one = (((), 1),)
        product = one
        for root in range(16):
            product = times(product, of(f"sub a {root}"))
        self.assertEqual(parting(product, ()), {"a": 16})
        for name in ("a", "b", "c"):
            for root in range(3):
                one = times(one, of(f"sub {name} {root}"))
        self.assertEqual(parting(one, ()), {"a": 3, "b": 3, "c": 3})
        self.assert_parting(plus(one, of("mul z z")), of("mul z z"))

    def test_nought_for_small_values_of_either_name(self):
        for text in ("mul a b", "sub a b", "sub mul a a a", "mul sub a b sub a 1", "sub mul a b a", "sub mul a a mul b b",
                     "mul mul a b sub a b"):
            with self.subTest(text=text):
                self.assert_parting(of(text), ())
                self.assert_parting((), of(text))
                self.assert_parting(plus(of(text), of("mul a c")), of("mul a c"))

    def test_names_that_stand_in_both_alike_have_values_too(self):
        self.assert_parting(of("add a b"), of("add a c"))
        self.assert_parting(of("add a 1"), of("a"))
        self.assert_parting(of("add mul a b x"), of("add mul a b y"))
        self.assertEqual(set(parting(of("add a 1"), of("add a 2"))), {"a"})

    def test_the_bound_is_that_of_one_row_of_one_of_both(self):
        one = of("add mul a b mul c d")
        for value in parting(one, of("mul c d")).values():
            self.assertIn(value, (0, 1))
        self.assert_parting(of("mul a a"), of("mul b b"))
        self.assert_parting(times(of("a"), times(of("b"), of("sub a b"))), ())

    def test_names_that_begin_alike(self):
        self.assert_parting(of("ab"), of("mul a b"))
        self.assert_parting(of("mul a a"), of("aa"))

    def test_many_forms_of_few_names(self):
        source = random.Random(12)
        for _ in range(300):
            one = some_form(source, ("a", "b", "c"), source.randint(0, 12), 5, 2)
            change = some_form(source, ("a", "b", "c"), source.randint(1, 2), 5, 2)
            root = source.choice((of("a"), of("sub a 1"), of("sub b a"), of("mul a sub c 1"), of("sub mul a a a")))
            self.assert_parting(one, plus(one, times(change, root)))

    def test_forms_as_great_as_allowed(self):
        source = random.Random(13)
        one = full_form(source, TWENTY, 200, 16)
        self.assert_parting(one, full_form(source, TWENTY, 200, 16))
        self.assert_parting(one, ())
        self.assert_parting(one, one[:-1])
        self.assert_parting(one, one[1:])
        self.assert_parting(one, one[:-1] + ((one[-1][0], one[-1][1] + 1),))
        self.assertIsNone(parting(one, one))
        few = full_form(source, ("a", "b", "c"), 120, 16)
        self.assert_parting(few, few[:60])

    def test_a_great_form_that_is_nought_nearly_everywhere(self):
        product = (((), 1),)
        for name in "abcdefg":
            product = times(product, of(f"sub mul {name} {name} {name}"))
        self.assertEqual(len(product), 128)
        self.assertEqual(parting(product, ()), {name: 2 for name in "abcdefg"})
        last = (("a",) * 16, 1), (("t",) * 16, 1)
        self.assert_parting(last[:1], last[1:])
        all_once = ((TWENTY[:16], 1),)
        self.assertEqual(parting(all_once, ()), {name: 1 for name in TWENTY[:16]})

    def test_the_dict_is_the_askers_own(self):
        one, other = of("mul a b"), of("c")
        told = parting(one, other)
        again = parting(one, other)
        told["a"] = 99
        told["z"] = 1
        self.assertEqual(set(again), {"a", "b", "c"})
        self.assertEqual(parting(one, other), again)

    def test_what_two_terms_come_to(self):
        for one, other, like in (
            ("mul a add b c", "add mul a c mul b a", True),
            ("sub a neg b", "add b a", True),
            ("neg sub a b", "sub b a", True),
            ("mul a a", "a", False),
            ("add a 1", "sub a -2", False),
        ):
            with self.subTest(one=one, other=other):
                self.assertIs(of(one) == of(other), like)
                if like:
                    self.assertIsNone(parting(of(one), of(other)))
                else:
                    values = parting(of(one), of(other))
                    self.assertNotEqual(worth(read_term(one), values), worth(read_term(other), values))


if __name__ == "__main__":
    unittest.main()
