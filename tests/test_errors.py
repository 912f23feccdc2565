"""The refusals: how they stand to one another, and what they keep."""

import copy
import unittest

from pricecover import errors

OF_A_TEXT = ("NoTerm", "NoBox", "BadCover", "NoCover")
OF_A_WORD = ("NoValue", "Twice", "NoName", "BadShape", "BadDeed")
ALL = OF_A_TEXT + OF_A_WORD + ("BadRow", "Unsound")


def made(name):
    kind = getattr(errors, name)
    if name == "BadRow":
        return kind(3)
    if name == "Unsound":
        return kind("rule", {"h1": 2})
    return kind("word")


class Standing(unittest.TestCase):
    def test_cover_error_is_a_value_error(self):
        self.assertTrue(issubclass(errors.CoverError, ValueError))
        self.assertEqual(errors.CoverError("said").args, ("said",))

    def test_each_stands_under_cover_error_and_no_other(self):
        for name in ALL:
            with self.subTest(name=name):
                kind = getattr(errors, name)
                self.assertTrue(issubclass(kind, errors.CoverError))
                self.assertTrue(issubclass(kind, ValueError))
                above = [other for other in ALL if other != name and issubclass(kind, getattr(errors, other))]
                self.assertEqual(above, [])

    def test_each_is_caught_as_itself_and_as_cover_error(self):
        for name in ALL:
            with self.subTest(name=name):
                for kind in (getattr(errors, name), errors.CoverError, ValueError):
                    with self.assertRaises(kind):
                        raise made(name)

    def test_no_two_are_one_class(self):
        self.assertEqual(len({getattr(errors, name) for name in ALL}), len(ALL))


class Keeping(unittest.TestCase):
    def test_a_text(self):
        for name in OF_A_TEXT:
            with self.subTest(name=name):
                self.assertIn("why so", str(getattr(errors, name)("why so")))

    def test_a_word(self):
        for name in OF_A_WORD:
            for word in ("a", "longname", ""):
                with self.subTest(name=name, word=word):
                    self.assertEqual(getattr(errors, name)(word).word, word)

    def test_a_row(self):
        for row in (1, 2, 4000):
            self.assertEqual(errors.BadRow(row).row, row)

    def test_word_and_worths(self):
        found = errors.Unsound("rule", {"h1": 0, "n2": 16})
        self.assertEqual(found.word, "rule")
        self.assertEqual(found.worths, {"h1": 0, "n2": 16})
        self.assertEqual(errors.Unsound("other", {}).worths, {})

    def test_worths_stay_when_the_dict_handed_in_is_changed(self):
        worths = {"h1": 0}
        found = errors.Unsound("rule", worths)
        worths["h1"] = 5
        worths["h2"] = 6
        self.assertEqual(found.worths, {"h1": 0})

    def test_the_dict_handed_in_stays_when_worths_are_changed(self):
        worths = {"h1": 0}
        errors.Unsound("rule", worths).worths["h1"] = 7
        self.assertEqual(worths, {"h1": 0})

    def test_a_copied_error_keeps_the_same(self):
        for name in ALL:
            with self.subTest(name=name):
                self.assertEqual(vars(copy.deepcopy(made(name))), vars(made(name)))


if __name__ == "__main__":
    unittest.main()
