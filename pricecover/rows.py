"""Rows: the deeds of a cover's rules written out for the machine, each rule with boxes of its own."""

from pricecover.books import BOXES
from pricecover.covers import laid_cover


def boxes_named(rule):
    # In the order in which they are taken: out, then the t's.
    return [box for box in BOXES if any([box in deed for deed in rule[4]])]


def steps_below(steps):
    # For each step the numbers of those that cover its holes; from the last to the first, so that
    # what covers a step's holes is there when it comes.
    holes = [[] for step in steps]
    waiting = []
    for number in range(len(steps) - 1, -1, -1):
        for hole in steps[number][1][0]:
            holes[number].append(waiting.pop())
        waiting.append(number)
    return holes


def holes_ahead(holes):
    # Found from its end: the last step, its last hole, and so on, then turned round.
    order = []
    waiting = [0]
    while len(waiting) > 0:
        number = waiting.pop()
        order.append(number)
        waiting.extend(holes[number])
    return list(reversed(order))


def meanings(step, results, boxes):
    # What the words of a rule's deeds stand for at its step; results are the boxes of its holes.
    meant = dict(zip(boxes_named(step[0]), boxes))
    for letter, found in zip("hnv", (results, step[1][1], step[1][2])):
        for number, thing in enumerate(found, start=1):
            meant[f"{letter}{number}"] = thing
    return meant


def deed_rows(step, results, boxes):
    meant = meanings(step, results, boxes)
    return [deed[:1] + tuple([meant.get(word, word) for word in deed[1:]]) for deed in step[0][4]]


def rows_in_order(steps, holes, order, boxes):
    # boxes: for each step those that it takes, its out first.
    rows = []
    for number in order:
        results = [boxes[hole][0] for hole in holes[number]]
        rows.extend(deed_rows(steps[number], results, boxes[number]))
    return rows


def counted_boxes(steps, order):
    boxes = {}
    many = 0
    for number in order:
        more = many + len(boxes_named(steps[number][0]))
        boxes[number] = list(range(many, more))
        many = more
    return boxes


def rows_of(book, words, kind, cover):
    steps = laid_cover(book, words, 0, kind, cover)
    holes = steps_below(steps)
    order = holes_ahead(holes)
    boxes = counted_boxes(steps, order)
    return (rows_in_order(steps, holes, order, boxes), boxes[0][0])
