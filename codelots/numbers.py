"""Codes by their numbers, and the numbers of codes."""

from codelots.books import Book
from codelots.errors import NoNumber
from codelots.plain import plain
from codelots.reading import read
from codelots.texts import is_below


def code_of(text, k, number):
    """The code of a text for k registers with a number (NoNumber)."""
    book = Book(plain(text), k)
    if not is_below(number, book.count):
        raise NoNumber(book.count)
    return book.code_at(number)


def number_of(code, k):
    """The plain form that a code for k registers reads to, and its number (Empty, Twin)."""
    text = read(code)
    return (text, Book(text, k).number_of_code(code))
