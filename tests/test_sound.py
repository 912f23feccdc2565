"""Sound books: each refusal by itself, several at once in their order, and the values for which a rule parts."""

import itertools
import random
import unittest

from pricecover.books import read_book
from pricecover.errors import BadDeed, BadShape, CoverError, NoName, Twice, Unsound
from pricecover.forms import form_of
from pricecover.sound import sound
from pricecover.terms import worth

GOOD = """kind reg
kind imm
kind addr
rule const imm 1 = any
does const put out n1
rule zero imm 1 = 0
does zero put out 0
rule lea addr 1 = var
does lea load out v1
rule move reg 2 = imm
does move put t1 0
does move add out h1 t1
rule ref reg 1 = addr
does ref neg t1 h1
does ref neg out t1
rule sum reg 4 = add reg reg
does sum add out h1 h2
rule less reg 4 = sub reg imm
does less sub out h1 h2
rule twice reg 3 = add mul 2 reg mul reg 2
does twice add t1 h1 h2
does twice add out t1 t1
rule fma reg 9 = add mul reg reg neg any
does fma mul t1 h1 h2
does fma put t2 n1
does fma sub out t1 t2
rule square reg 9 = mul sub reg var sub reg var
does square load t1 v1
does square load t2 v2
does square sub t1 h1 t1
does square sub t2 h2 t2
does square mul out t1 t2
rule back reg 5 = neg sub any any
does back put t1 n2
does back put out n1
does back sub out t1 out"""


def shape_term(shape, kinds):
    """The shape with names like h1 in the places of its leaves: another way than the program's."""
    many = {"h": 0, "n": 0, "v": 0}
    words = []
    for word in shape:
        letter = "n" if word == "any" else "v" if word == "var" else "h" if word in kinds else None
        if letter:
            many[letter] += 1
            word = letter + str(many[letter])
        words.append(word)
    return tuple(words)


def out_term(deeds):
    """What the deeds leave in out, as one term."""
    held = {}
    for deed in deeds:
        parts = [held.get(source, (source,)) for source in deed[2:]]
        held[deed[1]] = parts[0] if deed[0] in ("put", "load") else (deed[0],) + sum(parts, ())
    return held["out"]


def one_rule(shape, *deeds, kinds="reg imm", price=1):
    """A book of these kinds and one rule of the first of them."""
    names = kinds.split(" ")
    rows = ["kind " + name for name in names] + [f"rule r {names[0]} {price} = {shape}"]
    return read_book("\n".join(rows + ["does r " + deed for deed in deeds]))


def some_shape(source, many):
    """A shape of so many words."""
    if many == 1:
        return [source.choice(["any", "var", "reg", "reg", "imm", "2", "-1", "0"])]
    if many == 2:
        return ["neg"] + some_shape(source, 1)
    first = source.randint(1, many - 2)
    return [source.choice(["add", "sub", "mul"])] + some_shape(source, first) + some_shape(source, many - 1 - first)


def some_deeds(source):
    given = ["h1", "h2", "t1"] if source.random() < 0.7 else ["h1", "out", "t1", "t2", "t3"]
    deeds = []
    for _ in range(source.randint(1, 6)):
        deed = source.choice(("put", "load", "add", "sub", "mul", "neg"))
        box = source.choice(("out", "out", "t1", "t2"))
        if deed == "put":
            deeds.append(f"put {box} " + source.choice(("n1", "n1", "n2", "2", "-1", "0")))
        elif deed == "load":
            deeds.append(f"load {box} " + source.choice(("v1", "v1", "v2")))
        else:
            deeds.append(f"{deed} {box} " + " ".join(source.choices(given, k=1 if deed == "neg" else 2)))
    return deeds


def some_good_pair(source):
    """A shape of three leaves, and deeds that do it."""
    many = {"h": 0, "n": 0, "v": 0}
    words = []
    leaves = []
    deeds = []
    for box in ("t1", "t2", "t3"):
        word, letter, deed = source.choice((("any", "n", "put"), ("var", "v", "load"), ("reg", "h", None)))
        many[letter] += 1
        words.append(word)
        leaves.append(box if deed else letter + str(many[letter]))
        if deed:
            deeds.append(f"{deed} {box} {letter}{many[letter]}")
    one, other = source.choices(("add", "sub", "mul"), k=2)
    deeds += [f"{one} out {leaves[1]} {leaves[2]}", f"{other} out {leaves[0]} out"]
    return f"{other} {words[0]} {one} {words[1]} {words[2]}", deeds


class SoundCase(unittest.TestCase):
    def assert_sound(self, book):
        with self.subTest(book=book):
            self.assertEqual(sound(book), book)
            self.assertIs(type(sound(book)), tuple)

    def refusal(self, book):
        with self.assertRaises(CoverError) as refused:
            sound(book)
        return refused.exception

    def assert_refused(self, book, kind, word):
        with self.subTest(book=book):
            refused = self.refusal(book)
            self.assertIs(type(refused), kind)
            self.assertEqual(refused.word, word)

    def assert_unsound(self, book, word):
        """Refused with values as they are told for the two normal forms of that rule."""
        with self.subTest(book=book):
            refused = self.refusal(book)
            self.assertIs(type(refused), Unsound)
            self.assertEqual(refused.word, word)
            rule = [rule for rule in book[1] if rule[0] == word][0]
            said, done = shape_term(rule[3], book[0]), out_term(rule[4])
            rows = form_of(said) + form_of(done)
            self.assertIs(type(refused.worths), dict)
            self.assertEqual(set(refused.worths), {name for names, _ in rows for name in names})
            most = max([names.count(name) for names, _ in rows for name in names], default=0)
            for value in refused.worths.values():
                self.assertIs(type(value), int)
                self.assertIn(value, range(most + 1))
            values = {word: refused.worths.get(word, 5) for word in said + done if isinstance(word, str)}
            self.assertNotEqual(worth(said, values), worth(done, values))
            return refused.worths


class Sound(SoundCase):
    def test_a_sound_book_is_told_back_as_it_is(self):
        book = read_book(GOOD)
        self.assertEqual(len(book[1]), 11)
        self.assert_sound(book)
        self.assertEqual(book, read_book(GOOD))

    def test_nothing(self):
        self.assert_sound(((), ()))
        self.assert_sound((("reg",), ()))
        self.assert_sound((("reg", "imm", "re"), ()))

    def test_shapes_and_deeds_that_go_together(self):
        for shape, deeds in (
            ("5", ["put out 5"]),
            ("-5", ["put t1 5", "neg out t1"]),
            ("any", ["put out n1"]),
            ("var", ["load out v1"]),
            ("reg", ["neg out h1", "neg out out"]),
            ("imm", ["put t3 0", "sub out h1 t3"]),
            ("neg any", ["put t1 n1", "neg out t1"]),
            ("add any any", ["put t1 n1", "put t2 n2", "add out t1 t2"]),
            ("add any any", ["put t1 n2", "put t2 n1", "add out t1 t2"]),
            ("sub var var", ["load t1 v1", "load t2 v2", "sub out t1 t2"]),
            ("mul 0 reg", ["put out 0"]),
            ("sub reg neg reg", ["add out h2 h1"]),
            ("mul 3 reg", ["add t1 h1 h1", "add out t1 h1"]),
            ("mul add reg reg sub reg imm", ["add t1 h1 h2", "sub t2 h3 h4", "mul out t2 t1"]),
            ("add add reg var add any imm",
             ["load t1 v1", "put t2 n1", "add t1 h1 t1", "add t1 t1 t2", "add out t1 h2"]),
            ("add add add add add reg reg reg reg reg reg",
             ["add out h1 h2", "add out out h3", "add out out h4", "add out out h5", "add out out h6"]),
            ("neg mul add reg imm mul add reg imm any",
             ["add t1 h1 h2", "add t2 h3 h4", "put t3 n1", "mul t1 t1 t2", "mul t1 t1 t3", "neg out t1"]),
            ("sub 0 sub 0 reg", ["neg t1 h1", "neg out t1"]),
            ("neg neg neg neg neg neg neg neg neg neg neg reg", ["neg out h1"]),
        ):
            self.assert_sound(one_rule(shape, *deeds))

    def test_out_given_several_times_counts_at_the_end(self):
        self.assert_sound(one_rule("reg", "put out 5", "neg out h1", "neg out out"))
        self.assert_sound(one_rule("neg reg", "put out 0", "sub out out h1"))
        self.assert_unsound(one_rule("5", "put out 5", "put out 6"), "r")
        self.assert_unsound(one_rule("5", "put out 5", "neg out out"), "r")

    def test_deeds_behind_the_last_out_do_not_count(self):
        self.assert_sound(one_rule("5", "put out 5", "put t1 6", "neg t1 out"))

    def test_a_kind_called_like_other_things(self):
        self.assert_sound(one_rule("add h n", "add out h1 h2", kinds="h n"))
        self.assert_sound(one_rule("add kind rule", "add out h1 h2", kinds="rule kind"))

    def test_numbers_of_many_figures(self):
        great = "9" * 60
        self.assert_sound(one_rule(f"mul {great} add reg -{great}",
                                   f"put t1 {great}", "sub t2 h1 t1", "mul out t1 t2"))
        self.assert_unsound(one_rule(f"mul {great} reg", f"put t1 {great[:-1]}8", "mul out t1 h1"), "r")

    def test_as_great_as_allowed(self):
        kinds = ["k" + letter for letter in "abcdefgh"]
        rows = ["kind " + kind for kind in kinds]
        for place, (one, other) in enumerate(itertools.product("abcdefgh", "abcde")):
            name = "r" + one + other
            rows.append(f"rule {name} {kinds[place % 8]} 999999 = neg mul add ka kb mul add kc kd add ke kf")
            rows += [f"does {name} " + deed for deed in (
                "add t1 h1 h2", "add t2 h3 h4", "add t3 h5 h6", "mul t2 t2 t3", "mul t1 t1 t2", "neg out t1")]
        book = read_book("\n".join(rows))
        self.assertEqual([len(part) for part in book], [8, 40])
        self.assertEqual(len(book[1][0][3]), 12)
        self.assert_sound(book)

    def test_products_of_products(self):
        # 64 times one name in a row, and more than a hundred rows.
        squares = ["mul t1 h1 h1"] + ["mul t1 t1 t1"] * 4 + ["mul out t1 t1"]
        self.assertEqual(self.assert_unsound(one_rule("reg", *squares), "r"), {"h1": 2})
        sums = ["add t1 h1 h2", "add t1 t1 h3"] + ["mul t1 t1 t1"] * 3 + ["mul out t1 t1"]
        self.assert_unsound(one_rule("mul reg mul reg reg", *sums), "r")


class TwiceAndNoName(SoundCase):
    def test_a_kind_twice(self):
        self.assert_refused((("a", "a"), ()), Twice, "a")
        self.assert_refused((("a", "b", "a"), ()), Twice, "a")
        self.assert_refused((("a", "b", "b", "a"), ()), Twice, "b")
        self.assert_refused((("a", "b", "c", "b", "a"), ()), Twice, "b")
        self.assert_sound((("a", "aa", "b", "ab"), ()))

    def test_a_rule_like_a_rule_ahead(self):
        rule = "rule r reg 1 = 5\n"
        self.assert_refused(read_book("kind reg\n" + rule + "does r put out 5\n" + rule), Twice, "r")
        self.assert_refused(read_book("kind reg\n" + rule + "rule s reg 1 = 5\n" + "does r put out 5\n"
                                      "does s put out 5\n" + rule), Twice, "r")

    def test_a_rule_like_a_kind(self):
        for kinds in (("reg", "r"), ("r", "reg")):
            rows = ["kind " + kind for kind in kinds] + ["rule r reg 1 = 5", "does r put out 5"]
            self.assert_refused(read_book("\n".join(rows)), Twice, "r")
        self.assert_refused(read_book("rule reg reg 1 = 5\ndoes reg put out 5\nkind reg"), Twice, "reg")

    def test_a_kind_that_is_none(self):
        self.assert_refused(read_book("rule r reg 1 = 5\ndoes r put out 5"), NoName, "reg")
        self.assert_refused(read_book("kind re\nkind regs\nrule r reg 1 = 5\ndoes r put out 5"), NoName, "reg")
        self.assert_refused(read_book("kind reg\nrule r r 1 = 5\ndoes r put out 5"), NoName, "r")
        self.assert_refused(read_book("kind reg\nrule s reg 1 = 5\ndoes s put out 5\nrule r s 1 = 5"), NoName, "s")


class Shapes(SoundCase):
    def test_too_many_or_too_few_words(self):
        for shape in ("add", "neg", "mul reg", "sub any", "add neg reg", "neg neg", "reg reg", "5 5", "any any",
                      "var var", "neg reg reg", "add reg reg reg", "reg add", "5 neg 5", "add reg add reg",
                      "add add reg reg", "any neg", "sub var any imm", "5 add 5 5", "neg add reg",
                      "add reg reg imm any"):
            self.assert_refused(one_rule(shape, "put out 5"), BadShape, "r")

    def test_no_words(self):
        self.assert_refused((("reg",), (("r", "reg", 1, (), (("put", "out", 5),)),)), BadShape, "r")

    def test_a_name_that_is_no_kind(self):
        for shape in ("x", "neg x", "add reg x", "add x reg", "re", "regs", "r", "add mul reg imm sub any x"):
            self.assert_refused(one_rule(shape, "put out 5"), BadShape, "r")
        book = read_book("rule a reg 1 = 5\ndoes a put out 5\nkind reg\nrule b reg 1 = a\n")
        self.assert_refused(book, BadShape, "b")

    def test_each_leaf(self):
        for leaf, deeds in (("reg", ["neg out h1"]), ("any", ["put t1 n1", "neg out t1"]),
                            ("var", ["load t1 v1", "neg out t1"]), ("7", ["put out -7"])):
            self.assert_sound(one_rule("neg " + leaf, *deeds))
            self.assert_refused(one_rule(leaf + " neg", *deeds), BadShape, "r")
            self.assert_refused(one_rule("neg " + leaf + " " + leaf, *deeds), BadShape, "r")

    def test_all_short_rows_of_words(self):
        arity = {"add": 2, "neg": 1}

        def behind(words, place):
            if place >= len(words):
                return None
            place += 1
            for _ in range(arity.get(words[place - 1], 0)):
                place = behind(words, place)
                if place is None:
                    return None
            return place

        for many in range(1, 5):
            for words in itertools.product(("add", "neg", "any", "reg", "x"), repeat=many):
                book = one_rule(" ".join(words))
                if behind(words, 0) == many and "x" not in words:
                    self.assert_refused(book, BadDeed, "r")
                else:
                    self.assert_refused(book, BadShape, "r")


class Deeds(SoundCase):
    def test_no_deeds(self):
        self.assert_refused(one_rule("5"), BadDeed, "r")

    def test_out_never_given(self):
        self.assert_refused(one_rule("5", "put t1 5"), BadDeed, "r")
        self.assert_refused(one_rule("reg", "neg t1 h1", "neg t2 t1", "neg t3 t2"), BadDeed, "r")

    def test_an_h_n_or_v_that_the_shape_does_not_have(self):
        for shape, deeds in (
            ("5", ["neg out h1"]),
            ("5", ["put out n1"]),
            ("5", ["load out v1"]),
            ("reg", ["neg out h2"]),
            ("reg", ["add out h1 h2"]),
            ("reg", ["add out h2 h1"]),
            ("reg", ["put out n1"]),
            ("reg", ["load out v1"]),
            ("any", ["put out n2"]),
            ("any", ["neg out h1"]),
            ("any", ["load out v1"]),
            ("var", ["load out v2"]),
            ("var", ["put out n1"]),
            ("var", ["mul out h1 h1"]),
            ("add reg any", ["put t1 n1", "add out h2 t1"]),
            ("add reg any", ["put t1 n2", "add out h1 t1"]),
            ("add any var", ["load out v2"]),
            ("add reg imm", ["add out h1 h3"]),
            ("add reg reg", ["add out h1 h2", "neg t1 h3"]),
            ("reg", ["neg t1 h9", "neg out h1", "neg out out"]),
        ):
            self.assert_refused(one_rule(shape, *deeds), BadDeed, "r")

    def test_out_or_a_t_that_no_deed_ahead_gives(self):
        for deeds in (
            ["neg out out"],
            ["neg out t1"],
            ["add out h1 t1"],
            ["add out t1 h1"],
            ["sub out h1 out"],
            ["neg t1 t1", "neg out h1"],
            ["neg t1 t2", "put t2 5", "neg out h1"],
            ["put t1 5", "add out t1 t2"],
            ["put t1 5", "add out t3 t1"],
            ["neg t1 out", "neg out h1"],
            ["neg out h1", "neg t1 t1"],
            ["neg out h1", "neg out out", "mul t3 t2 t2"],
            ["neg out t3", "put t3 5"],
        ):
            self.assert_refused(one_rule("reg", *deeds), BadDeed, "r")

    def test_a_bad_deed_is_refused_ahead_of_another_worth(self):
        self.assert_refused(one_rule("reg", "put out 5", "neg t1 t2"), BadDeed, "r")
        self.assert_refused(one_rule("reg", "put out 5", "neg t1 h2"), BadDeed, "r")
        self.assert_unsound(one_rule("reg", "put out 5", "neg t1 h1"), "r")


class Worths(SoundCase):
    def test_ordinary(self):
        for shape, deeds in (
            ("5", ["put out 6"]),
            ("any", ["put out 5"]),
            ("5", ["put t1 5", "neg out t1"]),
            ("add reg reg", ["sub out h1 h2"]),
            ("sub reg reg", ["sub out h2 h1"]),
            ("sub any any", ["put t1 n2", "put t2 n1", "sub out t1 t2"]),
            ("sub var var", ["load t1 v2", "load t2 v1", "sub out t1 t2"]),
            ("add reg reg", ["add out h1 h1"]),
            ("add reg any", ["neg out h1", "neg out out"]),
            ("mul reg reg", ["mul out h1 h1"]),
            ("reg", ["neg out h1"]),
            ("add var any", ["load t1 v1", "put t2 n1", "mul out t1 t2"]),
            ("mul reg add imm any", ["mul t1 h1 h2", "put t2 n1", "add out t1 t2"]),
            ("neg mul reg imm", ["neg t1 h1", "neg t2 h2", "mul out t1 t2"]),
            ("add add add add add reg reg reg reg reg reg",
             ["add out h1 h2", "add out out h3", "add out out h4", "add out out h5", "add out out h5"]),
        ):
            self.assert_unsound(one_rule(shape, *deeds), "r")

    def test_another_thing_for_some_values_only(self):
        for shape, deeds in (
            ("reg", ["mul out h1 h1"]),
            ("any", ["put t1 n1", "mul out t1 t1"]),
            ("var", ["load t1 v1", "mul t2 t1 t1", "mul out t2 t1"]),
            ("mul reg reg", ["add out h1 h2"]),
            ("add reg reg", ["mul t1 h1 h2", "add t2 h1 h2", "add out t1 t2"]),
            ("0", ["put out 1"]),
            ("mul reg sub reg 1", ["put out 0"]),
            ("mul reg mul sub reg 1 sub reg 2", ["mul t1 h1 h1", "mul out t1 t1"]),
            ("mul sub reg imm sub imm reg", ["put out 0"]),
        ):
            self.assert_unsound(one_rule(shape, *deeds), "r")

    def test_another_thing_for_all_small_values_but_one(self):
        self.assertEqual(self.assert_unsound(one_rule("reg", "mul out h1 h1"), "r"), {"h1": 2})
        self.assertEqual(self.assert_unsound(one_rule("0", "put out -1"), "r"), {})
        self.assertEqual(self.assert_unsound(one_rule("mul reg mul any var", "put out 0"), "r"),
                         {"h1": 1, "n1": 1, "v1": 1})

    def test_names_of_both_forms_and_no_others(self):
        self.assertEqual(set(self.assert_unsound(one_rule("add reg any", "put out 5"), "r")), {"h1", "n1"})
        self.assertEqual(set(self.assert_unsound(one_rule("add mul 0 reg any", "put out 5"), "r")), {"n1"})
        self.assertEqual(set(self.assert_unsound(one_rule("mul 0 add reg imm", "neg out h2"), "r")), {"h2"})
        self.assertEqual(set(self.assert_unsound(one_rule("sub reg reg", "add out h1 h2"), "r")), {"h1", "h2"})

    def test_leaves_are_numbered_each_sort_by_itself(self):
        shape = "add add reg any add var add imm add any var"
        deeds = ["add t1 h1 h2", "put t2 n1", "add t1 t1 t2", "load t3 v1", "add out t1 t3"]
        self.assertEqual(set(self.assert_unsound(one_rule(shape, *deeds), "r")), {"h1", "h2", "n1", "n2", "v1", "v2"})
        shape = "sub sub imm any mul var sub reg any"
        deeds = ["put t1 n2", "sub t1 {} t1", "load t2 v1", "mul t1 t1 t2", "put t2 {}", "sub t2 {} t2"]
        for one, other, number in itertools.product(("h1", "h2"), ("h1", "h2"), ("n1", "n2")):
            rows = [deed.format(*parts) for deed, parts in zip(deeds, ((), (one,), (), (), (number,), (other,)))]
            book = one_rule(shape, *rows, "sub out t2 t1")
            if (one, other, number) == ("h2", "h1", "n1"):
                self.assert_sound(book)
            else:
                self.assert_unsound(book, "r")

    def test_what_is_told_is_the_askers_own(self):
        book = one_rule("reg", "neg out h1")
        told = self.refusal(book).worths
        kept = dict(told)
        told["h1"] = 99
        told["x"] = 1
        self.assertEqual(self.refusal(book).worths, kept)

    def test_many_rules_by_chance(self):
        source = random.Random(41)
        ends = {Unsound: 0, BadDeed: 0, None: 0}
        for _ in range(1500):
            words = some_shape(source, source.choice((1, 1, 2, 3, 3, 3, 4, 5, 7, 12)))
            ends[self.checked(one_rule(" ".join(words), *some_deeds(source)))] += 1
            shape, deeds = some_good_pair(source)
            ends[self.checked(one_rule(shape, *deeds))] += 1
            place = source.randrange(len(deeds))
            deeds[place:place + source.randint(0, 1)] = some_deeds(source)[:1]
            ends[self.checked(one_rule(shape, *deeds))] += 1
        self.assertGreater(min(ends.values()), 200)

    def checked(self, book):
        """How a book of one rule in good shape ends, as [13] tells."""
        said = shape_term(book[1][0][3], book[0])
        given = {word for word in said if isinstance(word, str)}
        for deed in book[1][0][4]:
            if any(isinstance(word, str) and word not in given for word in deed[2:]):
                self.assert_refused(book, BadDeed, "r")
                return BadDeed
            given.add(deed[1])
        if "out" not in given:
            self.assert_refused(book, BadDeed, "r")
            return BadDeed
        if form_of(said) != form_of(out_term(book[1][0][4])):
            self.assert_unsound(book, "r")
            return Unsound
        self.assert_sound(book)
        return None


class Order(SoundCase):
    FAULTS = (Twice, NoName, BadShape, BadDeed, Unsound)

    def faulty(self, name, faults):
        """A rule with these faults, and the word with which the first of them is refused."""
        own = ("reg" if name == "a" else "first") if Twice in faults else name
        shape = ("neg", "reg", "reg") if BadShape in faults else ("neg", "reg")
        deeds = (("add", "out", "h1", "h1"),) if Unsound in faults else (("neg", "out", "h1"),)
        if BadDeed in faults:
            deeds += (("neg", "t1", "t2"),)
        kind = "none" if NoName in faults else "reg"
        return (own, kind, 1, shape, deeds), kind if faults[:1] == (NoName,) else own

    def subsets(self):
        for many in range(len(self.FAULTS) + 1):
            yield from itertools.combinations(self.FAULTS, many)

    def test_faults_of_one_rule(self):
        first = ("first", "reg", 1, ("reg",), (("neg", "t1", "h1"), ("neg", "out", "t1")))
        for name in ("a", "b"):
            for faults in self.subsets():
                rule, word = self.faulty(name, faults)
                book = (("reg",), (first, rule))
                if faults:
                    self.assert_refused(book, faults[0], word)
                else:
                    self.assert_sound(book)

    def test_faults_of_two_rules(self):
        first = ("first", "reg", 1, ("reg",), (("neg", "t1", "h1"), ("neg", "out", "t1")))
        for one, other in itertools.product(self.subsets(), repeat=2):
            rules = [self.faulty("a", one), self.faulty("b", other)]
            book = (("reg",), (first, rules[0][0], rules[1][0]))
            faults = one or other
            if faults:
                self.assert_refused(book, faults[0], rules[0][1] if one else rules[1][1])
            else:
                self.assert_sound(book)

    def test_kinds_ahead_of_all_rules(self):
        for faults in self.subsets():
            rule = self.faulty("a", faults)[0]
            self.assert_refused((("reg", "x", "x"), (rule,)), Twice, "x")
            self.assert_refused((("reg", "x", "reg"), (rule,)), Twice, "reg")

    def test_a_fault_behind_a_good_book(self):
        rules = "\nrule last reg 1 = 5"
        self.assert_refused(read_book(GOOD + rules), BadDeed, "last")
        self.assert_unsound(read_book(GOOD + rules + "\ndoes last put out 6"), "last")
        self.assert_sound(read_book(GOOD + rules + "\ndoes last put out 5"))
        self.assert_refused(read_book(GOOD + "\nkind reg"), Twice, "reg")
        self.assert_refused(read_book(GOOD + "\nkind sum"), Twice, "sum")


if __name__ == "__main__":
    unittest.main()
