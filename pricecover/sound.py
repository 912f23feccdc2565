"""Sound books: names told once, whole shapes, and deeds that do what their shapes say."""

from pricecover.errors import BadDeed, BadShape, NoName, Twice, Unsound
from pricecover.forms import form_of, joined_forms, parting
from pricecover.shapes import is_shape, leaf_names
from pricecover.terms import how_many_below


def take_name(name, taken):
    if name in taken:
        raise Twice(name)
    taken[name] = True


def source_form(rule, source, forms):
    if not isinstance(source, str):
        return form_of((source,))
    if source not in forms:
        raise BadDeed(rule)
    return forms[source]


def deed_form(rule, deed, forms):
    sources = [source_form(rule, source, forms) for source in deed[2:]]
    if how_many_below(deed[0]) == 0:
        return sources[0]
    return joined_forms(deed[0], sources)


def out_form(rule, leaves, deeds):
    forms = {}
    for leaf in leaves:
        forms[leaf] = form_of((leaf,))
    for deed in deeds:
        forms[deed[1]] = deed_form(rule, deed, forms)
    if "out" not in forms:
        raise BadDeed(rule)
    return forms["out"]


def refuse_unsound(rule, shape, deeds, kinds):
    names = leaf_names(shape, kinds)
    done = out_form(rule, [name for name in names if name != ""], deeds)
    said = form_of(tuple([word if name == "" else name for word, name in zip(shape, names)]))
    worths = parting(done, said)
    if worths is not None:
        raise Unsound(rule, worths)


def sound(book):
    kinds = book[0]
    taken = {}
    for kind in kinds:
        take_name(kind, taken)
    for rule, kind, price, shape, deeds in book[1]:
        take_name(rule, taken)
        if kind not in kinds:
            raise NoName(kind)
        if not is_shape(shape, kinds):
            raise BadShape(rule)
        refuse_unsound(rule, shape, deeds, kinds)
    return book
