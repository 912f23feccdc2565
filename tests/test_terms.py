"""Names, numbers and terms: what is one, how it is read and shown, and its worth."""

import itertools
import random
import string
import unittest

from plain import tree, walked
from pricecover.errors import NoTerm, NoValue
from pricecover.terms import below, is_name, is_number, read_term, shown_term, worth

KEPT = ("add", "sub", "mul", "neg", "any", "var", "put", "load", "out")
SIGNS = [chr(code) for code in range(32, 127)] + ["\n"]

LEFT = ("neg",) + ("add",) * 59 + tuple("abcdefghij" * 6)
RIGHT = ("neg",) + tuple(word for name in "abcdefghij" * 6 for word in ("sub", name))[:118] + ("j",)
NEGS = ("neg",) * 119 + ("a",)


def tree_worth(part, values):
    _, word, parts = part
    worths = [tree_worth(lower, values) for lower in parts]
    if word == "add":
        return worths[0] + worths[1]
    if word == "sub":
        return worths[0] - worths[1]
    if word == "mul":
        return worths[0] * worths[1]
    if word == "neg":
        return -worths[0]
    return values[word] if isinstance(word, str) else word


def some_term(source, most):
    """A term of at most so many words."""
    if most == 1 or source.random() < 0.1:
        return (source.choice(["a", "b", "ab", "zzzzzzzz", 0, 7, -3, 10 ** 59]),)
    if most == 2 or source.random() < 0.2:
        return ("neg",) + some_term(source, most - 1)
    first = some_term(source, source.randint(1, most - 2))
    return (source.choice(["add", "sub", "mul"]),) + first + some_term(source, most - 1 - len(first))


class Names(unittest.TestCase):
    def test_names(self):
        for word in ("a", "z", "az", "abcdefgh", "zzzzzzzz", "adds", "ad", "anyone", "kind", "true", "outs", "vara"):
            with self.subTest(word=word):
                self.assertIs(is_name(word), True)

    def test_kept_words_are_none(self):
        for word in KEPT:
            with self.subTest(word=word):
                self.assertIs(is_name(word), False)

    def test_other_texts_are_none(self):
        for word in ("", "abcdefghi", "zzzzzzzzz", "A", "Ab", "aB", "ADD", "Add", "a1", "1", "a_b", "a-b", "a b",
                     " a", "a ", "a\n", "\na", "\n", " ", "-", "a.", "\u00e4", "\u0430"):
            with self.subTest(word=word):
                self.assertIs(is_name(word), False)

    def test_each_sign_alone_and_among_letters(self):
        for sign in SIGNS:
            for word in (sign, "ab" + sign, sign + "ab", "a" + sign + "b"):
                with self.subTest(word=word):
                    self.assertIs(is_name(word), sign in string.ascii_lowercase and word not in KEPT)

    def test_each_length(self):
        for many in range(12):
            self.assertIs(is_name("x" * many), 1 <= many <= 8)


class Numbers(unittest.TestCase):
    def test_numbers(self):
        for word in ("0", "1", "9", "10", "100", "-1", "-9", "-10", "1" * 60, "-" + "9" * 60, "1" + "0" * 59):
            with self.subTest(word=word):
                self.assertIs(is_number(word), True)

    def test_others(self):
        for word in ("", "-", "-0", "00", "01", "-00", "-01", "+1", "+0", "--1", "1-", "1 ", " 1", "1\n", "\n1", "1_0",
                     "1.0", "1e3", "0x1", "a", "1a", "a1", "1" * 61, "-" + "1" * 61, "0" + "1" * 59, "0" * 60,
                     "- 1", "-a", "\u0661", "\u00b2", "1\u0661"):
            with self.subTest(word=word):
                self.assertIs(is_number(word), False)

    def test_each_short_text_of_figures_and_signs(self):
        fine = {str(number) for number in range(-999, 1000)}
        for many in range(1, 4):
            for signs in itertools.product("0129-+ a", repeat=many):
                word = "".join(signs)
                self.assertIs(is_number(word), word in fine, word)

    def test_each_length(self):
        for many in range(70):
            self.assertIs(is_number("3" * many), 1 <= many <= 60)
            self.assertIs(is_number("-" + "3" * many), 1 <= many <= 60)


class Reading(unittest.TestCase):
    def assert_no_term(self, text):
        with self.subTest(text=text):
            with self.assertRaises(NoTerm):
                read_term(text)

    def test_terms(self):
        for text, words in (
            ("0", (0,)),
            ("-1", (-1,)),
            ("a", ("a",)),
            ("abcdefgh", ("abcdefgh",)),
            ("neg 0", ("neg", 0)),
            ("add a 1", ("add", "a", 1)),
            ("sub mul a b neg -7", ("sub", "mul", "a", "b", "neg", -7)),
            ("mul add 1 2 sub x x", ("mul", "add", 1, 2, "sub", "x", "x")),
            ("neg neg neg zero", ("neg", "neg", "neg", "zero")),
            ("9" * 60, (10 ** 60 - 1,)),
            ("-" + "9" * 60, (1 - 10 ** 60,)),
        ):
            with self.subTest(text=text):
                read = read_term(text)
                self.assertEqual(read, words)
                self.assertIs(type(read), tuple)
                self.assertEqual([type(word) for word in read], [type(word) for word in words])
                self.assertEqual(shown_term(words), text)
                self.assertIs(type(shown_term(words)), str)

    def test_no_words(self):
        for text in ("", " ", "  ", "\n"):
            self.assert_no_term(text)

    def test_blanks(self):
        for text in (" a", "a ", " add a b", "add a b ", "add  a b", "add a  b", "neg  a", " 1", "1 "):
            self.assert_no_term(text)

    def test_line_ends_and_other_gaps(self):
        for text in ("add\na b", "add a\nb", "a\n", "\na", "neg\n1", "add a b\n", "add a\n b", "add\ta b", "add,a,b"):
            self.assert_no_term(text)

    def test_a_word_lacking(self):
        for text in ("add", "sub a", "mul 1", "neg", "add neg a", "add add a b", "neg neg", "add add a b neg", "-"):
            self.assert_no_term(text)

    def test_a_word_left_over(self):
        for text in ("a b", "1 2", "neg a b", "add a b c", "a add", "a neg b", "a add b c", "add a b neg c",
                     "a add a", "neg a neg", "a neg"):
            self.assert_no_term(text)

    def test_words_of_no_term(self):
        for word in ("any", "var", "put", "load", "out", "abcdefghi", "A", "Add", "ADD", "a1", "h1", "+1", "-0", "00",
                     "01", "-01", "1" * 61, "-" + "1" * 61, "1.5", "a-b", "(a)", "True", "None", "\u00e4", "\u0661"):
            for text in (word, "neg " + word, "add a " + word, "add " + word + " a"):
                self.assert_no_term(text)

    def test_each_sign(self):
        for sign in SIGNS:
            text = "add a " + sign
            if sign in string.ascii_lowercase + string.digits:
                self.assertEqual(shown_term(read_term(text)), text)
            else:
                self.assert_no_term(text)

    def test_all_short_rows_of_words(self):
        for many in range(1, 6):
            for words in itertools.product(("add", "neg", "a", 1), repeat=many):
                text = " ".join(str(word) for word in words)
                try:
                    fine = tree(words)[1] == many
                except IndexError:
                    fine = False
                if fine:
                    self.assertEqual(read_term(text), words)
                else:
                    with self.assertRaises(NoTerm, msg=text):
                        read_term(text)

    def test_many_terms_are_read_as_they_are_shown(self):
        source = random.Random(4)
        for _ in range(300):
            words = some_term(source, source.randint(1, 120))
            self.assertEqual(read_term(shown_term(words)), words)

    def test_terms_of_120_words(self):
        for words in (LEFT, RIGHT, NEGS):
            self.assertEqual(len(words), 120)
            text = " ".join(words)
            self.assertEqual(read_term(text), words)
            self.assertEqual(shown_term(words), text)
            self.assert_no_term(text + " a")
            self.assert_no_term(text[:-2])

    def test_more_than_120_words_are_not_refused(self):
        for words in (("neg",) * 2000 + ("a",), ("add",) * 400 + ("a",) * 401):
            self.assertEqual(read_term(" ".join(words)), words)
            self.assertEqual(worth(words, {"a": 1}), 1 if words[0] == "neg" else 401)

    def test_numbers_that_were_told_are_shown_whole(self):
        self.assertEqual(shown_term(("neg", 10 ** 2999)), "neg 1" + "0" * 2999)


class Parts(unittest.TestCase):
    def test_ordinary(self):
        words = ("sub", "mul", "a", "neg", 3, "add", 1, "b")
        for place, places in enumerate(([1, 5], [2, 3], [], [4], [], [6, 7], [], [])):
            with self.subTest(place=place):
                found = below(words, place)
                self.assertEqual(found, places)
                self.assertIs(type(found), list)

    def test_one_word(self):
        self.assertEqual(below((5,), 0), [])
        self.assertEqual(below(("a",), 0), [])

    def test_terms_of_120_words(self):
        for place in range(120):
            self.assertEqual(below(NEGS, place), [place + 1] if place < 119 else [])
            self.assertEqual(below(RIGHT, place), [1] if place == 0 else
                             [place + 1, place + 2] if place % 2 == 1 and place < 119 else [])
        self.assertEqual(below(LEFT, 0), [1])
        for place in range(1, 60):
            self.assertEqual(below(LEFT, place), [place + 1, 120 - place])
        for place in range(60, 120):
            self.assertEqual(below(LEFT, place), [])

    def test_each_part_of_many_terms(self):
        source = random.Random(5)
        for _ in range(100):
            words = some_term(source, source.randint(1, 120))
            parts = list(walked(tree(words)[0]))
            self.assertEqual(sorted(place for place, _, _ in parts), list(range(len(words))))
            for place, _, lower in parts:
                self.assertEqual(below(words, place), [part[0] for part in lower])

    def test_the_list_is_the_askers_own(self):
        words = ("add", "neg", "a", 1)
        for place, places in ((0, [1, 3]), (1, [2]), (2, []), (3, [])):
            told = below(words, place)
            again = below(words, place)
            told.append(99)
            told.insert(0, 98)
            self.assertEqual(again, places)
            self.assertEqual(below(words, place), places)


class Worth(unittest.TestCase):
    def test_ordinary(self):
        values = {"a": 5, "b": -2, "longname": 0}
        for text, number in (("7", 7), ("-7", -7), ("a", 5), ("b", -2), ("longname", 0), ("add a b", 3),
                             ("sub a b", 7), ("sub b a", -7), ("mul a b", -10), ("neg a", -5), ("neg b", 2),
                             ("neg 0", 0), ("sub sub a b 1", 6), ("sub a sub b 1", 8), ("add mul a a neg b", 27),
                             ("mul add a 1 sub a 1", 24), ("sub 1 neg neg a", -4)):
            with self.subTest(text=text):
                self.assertEqual(worth(read_term(text), values), number)
                self.assertIs(type(worth(read_term(text), values)), int)

    def test_many_figures(self):
        great = 10 ** 60 - 1
        self.assertEqual(worth(("mul", "a", "b"), {"a": great, "b": -great}), -(great * great))
        self.assertEqual(worth(("sub", "a", "b"), {"a": -great, "b": great}), -2 * great)
        self.assertEqual(worth(("add", "neg", "a", great), {"a": great}), 0)
        self.assertEqual(worth(("mul",) * 49 + ("a",) * 50, {"a": great}), great ** 50)
        self.assertEqual(worth(("mul",) * 48 + ("a",) * 49, {"a": -great}), -(great ** 49))

    def test_terms_of_120_words(self):
        values = {name: place * place - 7 for place, name in enumerate("abcdefghij")}
        self.assertEqual(worth(LEFT, values), -6 * sum(values.values()))
        self.assertEqual(worth(NEGS, values), 7)
        self.assertEqual(worth(("neg",) * 118 + ("a",), values), -7)
        self.assertEqual(worth(RIGHT, values), tree_worth(tree(RIGHT)[0], values))
        leaning = ("sub",) * 59 + tuple("abcdefghij" * 6)
        self.assertEqual(worth(leaning, values), 2 * values["a"] - 6 * sum(values.values()))

    def test_many_terms(self):
        source = random.Random(6)
        for _ in range(300):
            words = some_term(source, source.randint(1, 120))
            values = {name: source.randint(-10 ** 3, 10 ** 3) for name in ("a", "b", "ab", "zzzzzzzz", "unused")}
            self.assertEqual(worth(words, values), tree_worth(tree(words)[0], values))

    def test_the_first_lacking_name_in_the_words_order(self):
        for text, values, word in (
            ("a", {}, "a"),
            ("neg b", {"a": 1}, "b"),
            ("add b a", {}, "b"),
            ("add a b", {}, "a"),
            ("add a b", {"a": 1}, "b"),
            ("add a b", {"b": 1}, "a"),
            ("mul 0 a", {}, "a"),
            ("sub x x", {"y": 1}, "x"),
            ("add add c b a", {"c": 0}, "b"),
            ("sub neg z mul y x", {}, "z"),
            ("add a add b add c d", {"a": 1, "b": 2, "d": 4}, "c"),
            ("add ab a", {"a": 1, "b": 2}, "ab"),
        ):
            with self.subTest(text=text, values=values):
                with self.assertRaises(NoValue) as refused:
                    worth(read_term(text), values)
                self.assertEqual(refused.exception.word, word)

    def test_a_name_lacking_in_great_terms(self):
        for words in (LEFT, RIGHT):
            for lacking in "abcdefghij":
                values = {name: 1 for name in "abcdefghij" if name < lacking}
                with self.assertRaises(NoValue) as refused:
                    worth(words, values)
                self.assertEqual(refused.exception.word, lacking)

    def test_values_of_nought_are_values(self):
        self.assertEqual(worth(("add", "a", "b"), {"a": 0, "b": 0}), 0)

    def test_the_values_stay(self):
        values = {"a": 3, "b": 4}
        worth(("add", "a", "b"), values)
        with self.assertRaises(NoValue):
            worth(("add", "a", "c"), values)
        self.assertEqual(list(values.items()), [("a", 3), ("b", 4)])

    def test_nothing_is_kept_of_the_values(self):
        values = {"a": 3}
        self.assertEqual(worth(("neg", "a"), values), -3)
        values["a"] = 8
        self.assertEqual(worth(("neg", "a"), values), -8)
        values.clear()
        with self.assertRaises(NoValue):
            worth(("neg", "a"), values)


if __name__ == "__main__":
    unittest.main()
