"""Few boxes: the least number of boxes that a cover needs, and its rows with boxes used again."""

from pricecover.covers import laid_cover
from pricecover.rows import boxes_named, holes_ahead, rows_in_order, steps_below


def most_at_once(needs, own):
    # The hole that needs most goes first; each one behind it finds one more result held.
    falling = sorted(needs, reverse=True)
    return max([len(needs) + own] + [held + most for held, most in enumerate(falling)])


def needs_of_steps(steps, holes):
    # From the last step to the first, as holes are covered behind their rule.
    needs = {}
    for number in range(len(steps) - 1, -1, -1):
        own = len(boxes_named(steps[number][0]))
        needs[number] = most_at_once([needs[hole] for hole in holes[number]], own)
    return needs


def least_free(held, many):
    return [box for box in range(len(held) + many) if box not in held][:many]


def boxes_used_again(steps, holes, order):
    # held: the boxes of the results that no rule has read yet.
    boxes = {}
    held = []
    for number in order:
        boxes[number] = least_free(held, len(boxes_named(steps[number][0])))
        results = [boxes[hole][0] for hole in holes[number]]
        held = [box for box in held if box not in results] + boxes[number][:1]
    return boxes


def need(book, words, kind, cover):
    steps = laid_cover(book, words, 0, kind, cover)
    return needs_of_steps(steps, steps_below(steps))[0]


def tight_rows(book, words, kind, cover):
    steps = laid_cover(book, words, 0, kind, cover)
    holes = steps_below(steps)
    needs = needs_of_steps(steps, holes)
    # sorted keeps the order of holes that need alike.
    order = holes_ahead([sorted(ones, key=lambda hole: -needs[hole]) for ones in holes])
    boxes = boxes_used_again(steps, holes, order)
    return (rows_in_order(steps, holes, order, boxes), boxes[0][0], needs[0])
