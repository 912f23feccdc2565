"""The whole: a term of a text, reckoned by the cheapest cover of a book of a text."""

from pricecover.books import read_book
from pricecover.covers import cheapest, cover_price
from pricecover.errors import NoName
from pricecover.machine import run
from pricecover.sound import sound
from pricecover.terms import read_term
from pricecover.tight import tight_rows


def answer(book_text, term_text, kind, values):
    book = sound(read_book(book_text))
    words = read_term(term_text)
    if kind not in book[0]:
        raise NoName(kind)
    cover = cheapest(book, words, kind)
    told = tight_rows(book, words, kind, cover)
    held = run(told[0], values)
    return (held[told[1]], cover_price(book, words, 0, kind, cover), told[2])
