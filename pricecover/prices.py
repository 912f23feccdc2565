"""Prices: where a rule fits, and the table of least prices of a term's parts for each kind."""

from pricecover.shapes import leaf_letter
from pricecover.terms import how_many_below, place_behind


def lies_upon(letter, shape_word, word):
    if letter == "h":
        return True
    if letter == "n":
        return not isinstance(word, str)
    if letter == "v":
        return isinstance(word, str) and how_many_below(word) == 0
    return shape_word == word


def laid(shape, kinds, words, place):
    # As long as the words are alike, shape and part end together: no place lies behind the part.
    under = {"h": [], "n": [], "v": []}
    at = place
    for shape_word in shape:
        letter = leaf_letter(shape_word, kinds)
        if not lies_upon(letter, shape_word, words[at]):
            return None
        if letter != "":
            under[letter].append(at if letter == "h" else words[at])
        at = place_behind(words, at) if letter == "h" else at + 1
    return (tuple(under["h"]), tuple(under["n"]), tuple(under["v"]))


def fit(book, rule, words, place):
    for name, kind, price, shape, deeds in book[1]:
        if name == rule:
            return laid(shape, book[0], words, place)
    return None


def holes_under(shape, kinds, under):
    # As (place, kind), by which least prices and covers are wanted.
    hole_kinds = [word for word in shape if leaf_letter(word, kinds) == "h"]
    return list(zip(under[0], hole_kinds))


def fitting_rules(book, words, place):
    fitting = []
    for name, kind, price, shape, deeds in book[1]:
        under = laid(shape, book[0], words, place)
        if under is not None:
            fitting.append((name, kind, price, holes_under(shape, book[0], under)))
    return fitting


def price_there(own, holes, least):
    # None where a hole has no price.
    total = own
    for hole in holes:
        if hole not in least:
            return None
        total = total + least[hole]
    return total


def settle_part(place, fitting, least):
    # Over again until nothing is less, as rules that are one hole alone lead from kind to kind at the same part.
    settled = False
    while not settled:
        settled = True
        for name, kind, own, holes in fitting:
            price = price_there(own, holes, least)
            if price is not None and ((place, kind) not in least or price < least[(place, kind)]):
                least[(place, kind)] = price
                settled = False


def rules_with_price(kind, price, fitting, least):
    return [name for name, other, own, holes in fitting if other == kind and price_there(own, holes, least) == price]


def rows_of_part(book, place, fitting, least):
    rows = []
    for kind in sorted(book[0]):
        if (place, kind) in least:
            price = least[(place, kind)]
            rows.append((place, kind, price, rules_with_price(kind, price, fitting, least)))
    return rows


def rows_with_all_rules(book, words):
    # From the last part to the first, so that the parts under a rule's holes are settled when it comes.
    least = {}
    parts = []
    for place in range(len(words) - 1, -1, -1):
        fitting = fitting_rules(book, words, place)
        settle_part(place, fitting, least)
        parts.append(rows_of_part(book, place, fitting, least))
    rows = []
    for part in reversed(parts):
        rows.extend(part)
    return rows


def prices(book, words):
    return [(place, kind, price, rules[0]) for place, kind, price, rules in rows_with_all_rules(book, words)]


def is_table(book, words, table):
    rows = rows_with_all_rules(book, words)
    if len(table) != len(rows):
        return False
    for told, row in zip(table, rows):
        if told[:3] != row[:3] or told[3] not in row[3]:
            return False
    return True
