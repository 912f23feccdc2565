"""Terms and shapes as trees: another way to look at them than the program's, for the tests."""

MANY = {"add": 2, "sub": 2, "mul": 2, "neg": 1}


def tree(words, place=0):
    """The part at a place, as (place, word, parts), and the place behind it."""
    parts = []
    behind = place + 1
    for _ in range(MANY.get(words[place], 0)):
        part, behind = tree(words, behind)
        parts.append(part)
    return (place, words[place], parts), behind


def walked(part):
    yield part
    for lower in part[2]:
        yield from walked(lower)
