"""Normal forms: sums of products of names and factors, and the values for which two part."""

from pricecover.terms import folded, how_many_below, value_of


def gathered(rows):
    factors = {}
    for names, factor in rows:
        factors[names] = factors.get(names, 0) + factor
    return tuple(sorted([(names, factor) for names, factor in factors.items() if factor != 0]))


def plus(one, other):
    return gathered(one + other)


def minus(one, other):
    return gathered(one + tuple([(names, -factor) for names, factor in other]))


def times(one, other):
    rows = []
    for names, factor in one:
        for more_names, more in other:
            rows.append((tuple(sorted(names + more_names)), factor * more))
    return gathered(rows)


def leaf_form(word):
    if how_many_below(word) > 0:
        return word
    if isinstance(word, str):
        return (((word,), 1),)
    return gathered([((), word)])


def joined_forms(word, parts):
    if word == "add":
        return plus(parts[0], parts[1])
    if word == "sub":
        return minus(parts[0], parts[1])
    if word == "mul":
        return times(parts[0], parts[1])
    return minus((), parts[0])


def form_of(words):
    return folded([leaf_form(word) for word in words], joined_forms)


def row_worth(names, factor, values):
    product = factor
    for name in names:
        product = product * value_of(name, values)
    return product


def form_worth(form, values):
    return sum([row_worth(names, factor, values) for names, factor in form])


def names_in(rows):
    found = {}
    for names, factor in rows:
        for name in names:
            found[name] = True
    return sorted(found)


def most_times(rows):
    most = 0
    for names, factor in rows:
        for name in names:
            most = max(most, names.count(name))
    return most


def name_replaced(form, name, value):
    rows = []
    for names, factor in form:
        rest = tuple([other for other in names if other != name])
        product = factor
        for turn in range(names.count(name)):
            product = product * value
        rows.append((rest, product))
    return gathered(rows)


def keeping_value(form, name, most):
    for value in range(most):
        if name_replaced(form, name, value) != ():
            return value
    # A form that is not 0 and holds a name at most so often becomes 0 for at most so many
    # values of it: if for all those below, then not for this one.
    return most


def parting(one, other):
    left = minus(one, other)
    if left == ():
        return None
    # The names and the bound are those of both forms, not of what is left of them.
    most = most_times(one + other)
    values = {}
    for name in names_in(one + other):
        values[name] = keeping_value(left, name, most)
        left = name_replaced(left, name, values[name])
    return values
