"""Terms: rows of words, read from texts, shown as texts, and reckoned by values."""

from pricecover.errors import NoTerm, NoValue

LETTERS = "abcdefghijklmnopqrstuvwxyz"
FIGURES = "0123456789"
MOST_LETTERS = 8
MOST_FIGURES = 60
KEPT_WORDS = ("add", "sub", "mul", "neg", "any", "var", "put", "load", "out")
PARTS_BELOW = {"add": 2, "sub": 2, "mul": 2, "neg": 1}


def made_of(text, signs):
    return all([sign in signs for sign in text])


def is_name(word):
    if len(word) < 1 or len(word) > MOST_LETTERS:
        return False
    return made_of(word, LETTERS) and word not in KEPT_WORDS


def is_number(word):
    figures = word[1:] if word.startswith("-") else word
    if len(figures) < 1 or len(figures) > MOST_FIGURES:
        return False
    if not made_of(figures, FIGURES):
        return False
    return word == "0" or figures[0] != "0"


def how_many_below(word):
    return PARTS_BELOW.get(word, 0)


def is_term_word(word):
    return is_number(word) or is_name(word) or word in PARTS_BELOW


def number_or_text(word):
    return int(word) if is_number(word) else word


def read_word(word):
    if not is_term_word(word):
        raise NoTerm(f"{word!r} is no word of a term")
    return number_or_text(word)


def is_one_term(words):
    lacking = 1
    for word in words:
        if lacking == 0:
            return False
        lacking = lacking - 1 + how_many_below(word)
    return lacking == 0


def read_term(text):
    words = tuple([read_word(word) for word in text.split(" ")])
    if not is_one_term(words):
        raise NoTerm(f"{text!r} is not just one term")
    return words


def shown_term(words):
    return " ".join([str(word) for word in words])


def place_behind(words, place):
    lacking = 1
    at = place
    while lacking > 0:
        lacking = lacking - 1 + how_many_below(words[at])
        at = at + 1
    return at


def below(words, place):
    places = []
    start = place + 1
    for part in range(how_many_below(words[place])):
        places.append(start)
        start = place_behind(words, start)
    return places


def folded(words, joined):
    # From the last word to the first, so that the parts below a word are done when it comes;
    # a loop, as a term may be deeper than calls should go.
    done = []
    for word in reversed(words):
        parts = []
        for part in range(how_many_below(word)):
            parts.append(done.pop())
        done.append(joined(word, parts) if len(parts) > 0 else word)
    return done[0]


def joined_numbers(word, parts):
    if word == "add":
        return parts[0] + parts[1]
    if word == "sub":
        return parts[0] - parts[1]
    if word == "mul":
        return parts[0] * parts[1]
    return -parts[0]


def value_of(name, values):
    if name not in values:
        raise NoValue(name)
    return values[name]


def with_value(word, values):
    if not isinstance(word, str) or word in PARTS_BELOW:
        return word
    return value_of(word, values)


def worth(words, values):
    # All names are looked up ahead of the reckoning, so that the first one lacking is refused.
    numbers = [with_value(word, values) for word in words]
    return folded(numbers, joined_numbers)
