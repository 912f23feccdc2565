"""Shapes: terms with leaves for any number, any name, and any part that is covered for a kind."""

from pricecover.terms import how_many_below, is_one_term, is_term_word


def is_shape_word(word):
    return is_term_word(word) or word in ("any", "var")


def leaf_letter(word, kinds):
    # The letter by which deeds tell the sorts of leaves apart; an empty text for every other word.
    if word == "any":
        return "n"
    if word == "var":
        return "v"
    return "h" if word in kinds else ""


def stands_in_shapes(word, kinds):
    return not isinstance(word, str) or how_many_below(word) > 0 or leaf_letter(word, kinds) != ""


def is_shape(words, kinds):
    return all([stands_in_shapes(word, kinds) for word in words]) and is_one_term(words)


def leaf_names(shape, kinds):
    # One for each word, and an empty one where no leaf is, so that both can be walked side by side.
    counts = {"h": 0, "n": 0, "v": 0}
    names = []
    for word in shape:
        letter = leaf_letter(word, kinds)
        if letter == "":
            names.append("")
        else:
            counts[letter] = counts[letter] + 1
            number = counts[letter]
            names.append(f"{letter}{number}")
    return names
