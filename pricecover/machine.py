"""The machine: rows that put, load and reckon, run in order over boxes."""

from pricecover.errors import NoBox
from pricecover.terms import joined_numbers, value_of


def held_in(box, boxes):
    if box not in boxes:
        raise NoBox(f"box {box} is read while it is empty")
    return boxes[box]


def row_number(row, boxes, values):
    if row[0] == "put":
        return row[2]
    if row[0] == "load":
        return value_of(row[2], values)
    return joined_numbers(row[0], [held_in(box, boxes) for box in row[2:]])


def run(rows, values):
    boxes = {}
    for row in rows:
        boxes[row[1]] = row_number(row, boxes, values)
    return boxes
