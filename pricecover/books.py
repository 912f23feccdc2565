"""Books: kinds and rules, read from a text of rows and shown as one."""

from pricecover.errors import BadRow
from pricecover.shapes import is_shape_word
from pricecover.terms import how_many_below, is_name, is_number, number_or_text, shown_term

BOXES = ("out", "t1", "t2", "t3")
LEAF_NUMBERS = "123456789"
MOST_PRICE = 999999
MOST_SHAPE_WORDS = 12
# A rule's shape begins behind `rule NAME KIND PRICE =`.
SHAPE_START = 5


def is_leaf_name(word, letter):
    return len(word) == 2 and word[0] == letter and word[1] in LEAF_NUMBERS


def is_from(word):
    return word in BOXES or is_leaf_name(word, "h")


def is_source(deed, word):
    if deed == "put":
        return is_number(word) or is_leaf_name(word, "n")
    if deed == "load":
        return is_leaf_name(word, "v")
    return is_from(word)


def how_many_sources(deed):
    return 1 if deed in ("put", "load") else how_many_below(deed)


def is_deed(words):
    if len(words) < 3 or words[1] not in BOXES:
        return False
    if len(words) != 2 + how_many_sources(words[0]):
        return False
    return all([is_source(words[0], word) for word in words[2:]])


def is_price(word):
    return is_number(word) and 1 <= int(word) and int(word) <= MOST_PRICE


def is_kind_row(words):
    return len(words) == 2 and words[0] == "kind" and is_name(words[1])


def is_rule_row(words):
    shape = words[SHAPE_START:]
    if len(shape) < 1 or len(shape) > MOST_SHAPE_WORDS or words[0] != "rule":
        return False
    if not is_name(words[1]) or not is_name(words[2]) or not is_price(words[3]) or words[4] != "=":
        return False
    return all([is_shape_word(word) for word in shape])


def is_does_row(words):
    return len(words) > 2 and words[0] == "does" and is_name(words[1]) and is_deed(words[2:])


def rows_in(text):
    rows = []
    for number, row in enumerate(text.split("\n"), start=1):
        if row != "":
            rows.append((number, row.split(" ")))
    return rows


def refuse_other_rows(rows):
    for number, words in rows:
        if not is_kind_row(words) and not is_rule_row(words) and not is_does_row(words):
            raise BadRow(number)


def read_words(words):
    return tuple([number_or_text(word) for word in words])


def deeds_by_rule(rows):
    deeds = {}
    for number, words in rows:
        if words[0] == "rule":
            deeds[words[1]] = []
    for number, words in rows:
        if words[0] == "does":
            if words[1] not in deeds:
                raise BadRow(number)
            deeds[words[1]].append(read_words(words[2:]))
    return deeds


def read_book(text):
    rows = rows_in(text)
    refuse_other_rows(rows)
    deeds = deeds_by_rule(rows)
    kinds = []
    rules = []
    for number, words in rows:
        if words[0] == "kind":
            kinds.append(words[1])
        if words[0] == "rule":
            # Taken out, so that of rules of one name the first alone has the deeds.
            own = tuple(deeds.pop(words[1], []))
            rules.append((words[1], words[2], int(words[3]), read_words(words[SHAPE_START:]), own))
    return (tuple(kinds), tuple(rules))


def shown_book(book):
    rows = [("kind", kind) for kind in book[0]]
    for name, kind, price, shape, deeds in book[1]:
        rows.append(("rule", name, kind, price, "=") + shape)
        rows.extend([("does", name) + deed for deed in deeds])
    return "\n".join([shown_term(row) for row in rows])
