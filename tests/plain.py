"""What the tests share: books and terms that are made or drawn, and other ways than the program's to look at them."""

import itertools

from pricecover.books import read_book
from pricecover.sound import sound

MANY = {"add": 2, "sub": 2, "mul": 2, "neg": 1}
BOXES = ("t1", "t2", "t3", "out")

# Deeds of many sorts: t's out of order and with gaps, a hole read twice or not at all, a name that is not loaded.
TEXT = """kind reg
kind imm
rule const imm 1 = any
does const put out n1
rule name reg 3 = var
does name load out v1
rule move reg 2 = imm
does move neg t2 h1
does move neg out t2
rule same reg 1 = reg
does same put t1 0
does same add out t1 h1
rule sum reg 4 = add reg reg
does sum add out h1 h2
rule less reg 5 = sub reg reg
does less neg t3 h2
does less put t1 0
does less add out h1 t3
does less add out out t1
rule times reg 6 = mul reg reg
does times mul out h2 h1
rule twice reg 1 = mul 2 reg
does twice add out h1 h1
rule nought reg 1 = mul 0 reg
does nought put out 0
rule noname reg 1 = mul var 0
does noname put out 0
rule seven reg 1 = 7
does seven put out 7
rule mixed reg 9 = add any sub any var
does mixed load out v1
does mixed put t3 n2
does mixed sub out t3 out
does mixed put t3 n1
does mixed add out t3 out
rule cross reg 9 = sub var mul any var
does cross load t2 v2
does cross put t1 n1
does cross mul t1 t1 t2
does cross load out v1
does cross sub out out t1
rule three reg 9 = mul add reg imm reg
does three add t1 h1 h2
does three mul out t1 h3
rule turn reg 7 = neg reg
does turn neg out h1"""

# What is no cover of a term for a kind, by the book of this text.
BAD_COVERS = (
    ("a", "reg", ""), ("a", "reg", "none"), ("a", "reg", "name name"), ("a", "reg", "name same"), ("a", "reg", "same"),
    ("a", "reg", "move name"), ("a", "reg", "seven"), ("a", "imm", "name"), ("a", "imm", "const"), ("a", "", "name"),
    ("5", "reg", "const"), ("5", "imm", "move const"), ("5", "reg", "move"), ("5", "reg", "name"),
    ("5", "none", "const"), ("8", "reg", "seven"), ("add a b", "reg", "sum"), ("add a b", "reg", "sum name"),
    ("add a b", "reg", "name"), ("add a b", "reg", "sum name name name"), ("add a b", "reg", "sum name none"),
    ("add a b", "reg", "sum none name"), ("add a b", "reg", "less name name"),
    ("add a 5", "reg", "sum move const name"), ("add a 5", "reg", "sum name const"),
    ("add neg a b", "reg", "sum name turn name"), ("mul 2 a", "reg", "nought name"), ("mul 2 a", "reg", "twice"),
    ("mul 0 a", "reg", "nought"), ("mul a 0", "reg", "noname name"), ("neg neg a", "reg", "turn name"))

# Covers for reg of about three hundred names, by the book of this text.
GREAT_COVERS = (
    (("a",), ("same",) * 299 + ("name",)),
    (("neg",) * 119 + ("a",), ("turn", "same") * 119 + ("same",) * 61 + ("name",)),
    (("sub",) * 59 + ("a", 5) * 30,
     ("less",) * 59 + (("same",) * 3 + ("name",) + ("same",) * 2 + ("move", "const")) * 30),
    (("sub", "a") * 59 + (5,), ("less", "same", "same", "same", "name") * 59 + ("same",) * 3 + ("move", "const")))


class NoDeeds(Exception):
    """Six deeds over four boxes do not do for a shape."""


def tree(words, place=0):
    """The part at a place, as (place, word, parts), and the place behind it."""
    parts = []
    behind = place + 1
    for _ in range(MANY.get(words[place], 0)):
        part, behind = tree(words, behind)
        parts.append(part)
    return (place, words[place], parts), behind


def walked(part):
    yield part
    for lower in part[2]:
        yield from walked(lower)


def deeds_for(shape, kinds):
    """Deeds that do a shape, so that books of any shapes can be made sound."""
    deeds = []
    many = {"h": 0, "n": 0, "v": 0}
    free = list(BOXES)

    def numbered(letter):
        many[letter] += 1
        return letter + str(many[letter])

    def done(*deed):
        for source in deed[1:]:
            if source in BOXES:
                free.append(source)
        if not free:
            raise NoDeeds
        deeds.append((deed[0], free.pop(0)) + deed[1:])
        return deeds[-1][1]

    def gone_through(part):
        word = part[1]
        if word in kinds:
            return numbered("h")
        if word == "neg" and part[2][0][1] == "neg":
            return gone_through(part[2][0][2][0])
        if word in MANY:
            return done(word, *[gone_through(lower) for lower in part[2]])
        if word in ("any", "var"):
            return done("put", numbered("n")) if word == "any" else done("load", numbered("v"))
        return done("put", word)

    last = gone_through(tree(shape)[0])
    if last not in BOXES:
        deeds += [("neg", "t1", last), ("neg", "out", "t1")]
    else:
        deeds[-1] = (deeds[-1][0], "out") + deeds[-1][2:]
    if len(deeds) > 6:
        raise NoDeeds
    return tuple(deeds)


def book_of(kinds, *rules):
    """A sound book of rules told as `NAME KIND PRICE = WORD ..`."""
    text = "\n".join(["kind " + kind for kind in kinds.split(" ")] + ["rule " + rule for rule in rules])
    names, bare = read_book(text)
    full = tuple(rule[:4] + (deeds_for(rule[3], names),) for rule in bare)
    return sound((names, full))


def laid_upon(shape, part, kinds, found):
    place, word, lower = part
    if shape[1] in kinds:
        found["holes"].append((place, shape[1]))
        return True
    if shape[1] == "any":
        found["numbers"].append(word)
        return isinstance(word, int)
    if shape[1] == "var":
        found["names"].append(word)
        return isinstance(word, str) and word not in MANY
    if shape[1] != word or isinstance(shape[1], str) != isinstance(word, str):
        return False
    return all(laid_upon(one, other, kinds, found) for one, other in zip(shape[2], lower))


def plain_fits(book, words):
    """By (rule's name, place) what lies under the rule there, where it fits."""
    fits = {}
    for part in walked(tree(words)[0]):
        for rule in book[1]:
            found = {"holes": [], "numbers": [], "names": []}
            if laid_upon(tree(rule[3])[0], part, book[0], found):
                fits[rule[0], part[0]] = found
    return fits


def plain_choices(book, words):
    """By (place, kind) the least price and the names of all rules that have it, in the book's order."""
    rules = {rule[0]: rule for rule in book[1]}
    fits = plain_fits(book, words)
    least = {}

    def price(name, place):
        parts = [least.get(hole) for hole in fits[name, place]["holes"]]
        return None if None in parts else rules[name][2] + sum(parts)

    changed = True
    while changed:
        changed = False
        for name, place in fits:
            found = price(name, place)
            key = (place, rules[name][1])
            if found is not None and found < least.get(key, found + 1):
                least[key] = found
                changed = True
    return {key: (number, [name for name in rules if (name, key[0]) in fits and rules[name][1] == key[1]
                           and price(name, key[0]) == number]) for key, number in least.items()}


def all_covers(book, words, place, kind, most):
    """All covers of at most so many names, as rings of rules may be gone through again and again."""
    fits = plain_fits(book, words)

    def of_part(place, kind, most):
        if most < 1:
            return []
        return [(name,) + rest for name, own, *_ in book[1] if own == kind and (name, place) in fits
                for rest in of_holes(fits[name, place]["holes"], most - 1)]

    def of_holes(holes, most):
        if not holes:
            return [()]
        return [first + rest for first in of_part(*holes[0], most - len(holes) + 1)
                for rest in of_holes(holes[1:], most - len(first))]

    return of_part(place, kind, most)


def some_cover(source, book, words, place, kind, freely=9):
    """A cover, drawn freely to some depth and behind it from the cheapest rules; None where there is none."""
    fits = plain_fits(book, words)
    choices = plain_choices(book, words)

    def drawn(place, kind, left):
        names = choices[place, kind][1]
        if left > 0:
            names = [name for name, own, *_ in book[1] if own == kind and (name, place) in fits
                     and all(hole in choices for hole in fits[name, place]["holes"])]
        name = source.choice(names)
        return sum([drawn(*hole, left - 1) for hole in fits[name, place]["holes"]], (name,))

    return drawn(place, kind, freely) if (place, kind) in choices else None


def cover_tree(book, words, place, kind, cover):
    """A cover as (rule, what lies under it, the trees of its holes)."""
    fits = plain_fits(book, words)
    rules = {rule[0]: rule for rule in book[1]}
    names = list(cover)

    def grown(place, kind):
        rule = rules[names.pop(0)]
        found = fits[rule[0], place]
        if rule[1] != kind:
            raise ValueError(rule)
        return rule, found, [grown(*hole) for hole in found["holes"]]

    root = grown(place, kind)
    if names:
        raise ValueError(names)
    return root


def written(node, results, taken):
    """The rows of a rule of a cover's tree, with the boxes of its holes and those that it takes."""
    rule, found, _ = node
    meant = dict(zip(named(node), taken))
    for letter, things in (("h", results), ("n", found["numbers"]), ("v", found["names"])):
        meant.update((letter + str(place + 1), thing) for place, thing in enumerate(things))
    return [(deed[0],) + tuple(word if isinstance(word, int) else meant[word] for word in deed[1:]) for deed in rule[4]]


def named(node):
    words = [word for deed in node[0][4] for word in deed]
    return [box for box in ("out", "t1", "t2", "t3") if box in words]


def all_sequences(node, path=()):
    """All orders of going through a cover's tree, as lists of (path, node), a rule behind its holes."""
    for order in itertools.permutations(range(len(node[2]))):
        parts = [list(all_sequences(node[2][place], path + (place,))) for place in order]
        for chosen in itertools.product(*parts):
            yield sum(chosen, []) + [(path, node)]


def most_in_use(sequence):
    held = set()
    most = 0
    for path, node in sequence:
        most = max(most, len(held) + len(named(node)))
        held -= {path + (place,) for place in range(len(node[2]))}
        held.add(path)
    return most


def need_by_all_orders(root):
    return min(most_in_use(sequence) for sequence in all_sequences(root))


def some_term(source, many, leaves=("a", "b", 0, 1, 7)):
    """A term of just so many words."""
    if many == 1:
        return (source.choice(leaves),)
    if many == 2 or source.random() < 0.15:
        return ("neg",) + some_term(source, many - 1, leaves)
    first = source.randint(1, many - 2)
    word = source.choice(("add", "add", "sub", "mul"))
    return (word,) + some_term(source, first, leaves) + some_term(source, many - 1 - first, leaves)


def some_book(source, kinds, many, dearest=6):
    """A sound book of so many rules; rules from kind to kind and rules of like prices among them."""
    names = tuple(source.sample(["reg", "imm", "addr", "k", "ka", "kb", "z", "any" * 2], kinds))
    leaves = names + names + ("any", "var", 0, 1)
    kind = names[0]
    # With all of these every term has a cover for the first kind.
    shapes = [("any",), ("var",), ("neg", kind), ("add", kind, kind), ("sub", kind, kind), ("mul", kind, kind)][:many]
    rules = [(kind, shape, deeds_for(shape, names)) for shape in shapes]
    while len(rules) < many:
        shape = some_term(source, source.choice((1, 1, 1, 2, 3, 3, 3, 4, 5, 5, 6, 8, 11, 12)), leaves)
        try:
            rules.append((source.choice(names), shape, deeds_for(shape, names)))
        except NoDeeds:
            pass
    source.shuffle(rules)
    called = ["r" + one + other for one in "abcdefgh" for other in "abcde"]
    return sound((names, tuple((name, kind, source.randint(1, dearest), shape, deeds)
                               for name, (kind, shape, deeds) in zip(called, rules))))


def some_dense_book(source, kinds, many, dearest=6):
    """A sound book of small shapes, so that small terms have many covers."""
    names = ("p", "q", "r", "s")[:kinds]
    kind = names[0]
    rules = [(kind, ("any",)), (kind, ("var",)), (kind, ("add", kind, kind)), (kind, ("neg", kind))]
    while len(rules) < many:
        one, other = source.choices(names, k=2)
        shape = source.choice((("any",), ("var",), (one,), (one,), (one,), ("neg", one), ("neg", "var"), (0,),
                               ("add", one, other), ("add", one, "any"), ("add", "var", one), ("sub", one, other),
                               ("mul", one, other), ("add", "neg", one, other)))
        rules.append((source.choice(names), shape))
    source.shuffle(rules)
    return sound((names, tuple(("z" + letter, own, source.randint(1, dearest), shape, deeds_for(shape, names))
                               for letter, (own, shape) in zip("abcdefghijklmnopqrst", rules))))


def varied(source, shape, deeds, kinds):
    """Deeds that do the same, with other t's, and perhaps with one ahead or behind that does nothing for it."""
    called = dict(zip(BOXES, source.sample(BOXES[:3], 3) + ["out"]))
    deeds = [tuple(called.get(word, word) for word in deed) for deed in deeds]
    if len(deeds) < 6 and source.random() < 0.3:
        read = "h1" if any(word in kinds for word in shape) else None
        box = source.choice(BOXES)
        deeds.insert(0, ("neg", box, read) if read else ("put", box, 3))
    if len(deeds) < 6 and source.random() < 0.3:
        deeds.append(("add", source.choice(BOXES[:3]), "out", "out"))
    return tuple(deeds)


def some_rich_book(source, kinds, many, dearest=6):
    """As some_book, with unlike deeds, and with rules that read a hole twice, or no hole, or no name."""
    names, rules = some_book(source, kinds, many, dearest)
    rules = [rule[:4] + (varied(source, rule[3], rule[4], names),) for rule in rules]
    kind = names[0]
    for name, shape, deeds in (("twice", ("mul", 2, kind), (("add", "out", "h1", "h1"),)),
                               ("nought", ("mul", kind, 0), (("put", "out", 0),)),
                               ("noname", ("mul", "var", 0), (("put", "out", 0),)),
                               ("far", ("sub", "add", kind, kind, kind),
                                (("put", "t3", 1), ("sub", "t1", "h1", "h3"), ("add", "out", "h2", "t1"),
                                 ("mul", "out", "out", "t3")))):
        rules.insert(source.randint(0, len(rules)), (name, kind, source.randint(1, dearest), shape, deeds))
    return sound((names, tuple(rules)))


def rows_of_names(source):
    """Books, small terms, kinds, all rows of up to four names, one of them none of the book's, and whether a cover."""
    covers = []
    while len(covers) < 40:
        book = some_dense_book(source, source.randint(1, 2), source.randint(4, 6))
        words = some_term(source, source.randint(1, 4))
        for kind in book[0]:
            found = all_covers(book, words, 0, kind, 4)
            covers += found
            names = [rule[0] for rule in book[1]] + ["none"]
            for many in range(5 if found else 3):
                for cover in itertools.product(names, repeat=many):
                    yield book, words, kind, cover, cover in found


def drawn_covers(source):
    """Rich books, terms, kinds and drawn covers of them."""
    many = 0
    while many < 250:
        book = some_rich_book(source, source.randint(1, 4), source.randint(6, 16))
        words = some_term(source, source.randint(1, 25), ("a", "b", "reg", 0, 2, 7, -3))
        for kind in book[0]:
            cover = some_cover(source, book, words, 0, kind)
            if cover is not None and len(cover) <= 300:
                many += 1
                yield book, words, kind, cover


def ring_book():
    """Eight kinds in a ring, so that the cheapest cover of a deep term for a goes round at each part."""
    kinds = "abcdefgh"
    ring = [f"r{kind} {kind} 1 = {kinds[place - 1]}" for place, kind in enumerate(kinds)]
    return book_of(" ".join(kinds), *ring, "name h 1 = var", "turn b 1 = neg a")
