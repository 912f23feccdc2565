"""Covers: rules that fit into one another over a term's part, their price, and the cheapest of them."""

from pricecover.errors import BadCover, NoCover
from pricecover.prices import holes_under, laid, prices


def laid_rule(book, name, words, place, kind):
    for rule in book[1]:
        if rule[0] == name and rule[1] == kind:
            under = laid(rule[3], book[0], words, place)
            if under is not None:
                return (rule, under)
    raise BadCover(f"{name!r} is no rule of kind {kind!r} that fits at {place}")


def last_hole_first(book, step):
    # The parts to be covered wait in a list that is taken from at its end.
    rule = step[0]
    return list(reversed(holes_under(rule[3], book[0], step[1])))


def laid_cover(book, words, place, kind, cover):
    # A step for each name, in the cover's order: (rule, what lies under it).
    # A loop, as a cover may be deeper than calls should go.
    steps = []
    waiting = [(place, kind)]
    for name in cover:
        if len(waiting) == 0:
            raise BadCover(f"{name!r} is left over")
        hole = waiting.pop()
        step = laid_rule(book, name, words, hole[0], hole[1])
        steps.append(step)
        waiting.extend(last_hole_first(book, step))
    if len(waiting) > 0:
        raise BadCover("a part is left without a rule")
    return steps


def cover_price(book, words, place, kind, cover):
    return sum([rule[2] for rule, under in laid_cover(book, words, place, kind, cover)])


def rules_of_table(book, words):
    chosen = {}
    for place, kind, price, rule in prices(book, words):
        chosen[(place, kind)] = rule
    return chosen


def cheapest(book, words, kind):
    chosen = rules_of_table(book, words)
    if (0, kind) not in chosen:
        raise NoCover(f"there is no cover for {kind!r}")
    cover = []
    waiting = [(0, kind)]
    while len(waiting) > 0:
        hole = waiting.pop()
        cover.append(chosen[hole])
        waiting.extend(last_hole_first(book, laid_rule(book, chosen[hole], words, hole[0], hole[1])))
    return tuple(cover)
