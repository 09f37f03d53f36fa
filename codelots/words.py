"""Words laid in codes: each word is a number, and so a code."""

from codelots.books import Book
from codelots.counts import many
from codelots.errors import NoRoom
from codelots.numbers import number_of
from codelots.plain import LETTERS, plain


def room(text, k):
    """The greatest length of which each word has a code of a text for k registers, -1 where there is no code."""
    return room_of(many(text, k))


def laid(text, k, word):
    """The code of a text for k registers that has a word's number (NoRoom)."""
    book = Book(plain(text), k)
    most = room_of(book.count)
    if len(word) > most:
        raise NoRoom(most)
    return book.code_at(word_number(word))


def word_in(code, k):
    """The word that has the number of a code for k registers (Empty, Twin)."""
    return word_at(number_of(code, k)[1])


def room_of(count):
    """The greatest length of which all words have numbers below a count, -1 where there is none."""
    length = -1
    # How many words are no longer, and how many are longer by one.
    words = 0
    longer = 1
    while words + longer <= count:
        length = length + 1
        words = words + longer
        longer = longer * len(LETTERS)
    return length


def word_number(word):
    """The number of a word: how many are shorter, or as long and sorted ahead of it."""
    number = 0
    for sign in word:
        number = number * len(LETTERS) + LETTERS.index(sign) + 1
    return number


def word_at(number):
    """The word with a number."""
    rest = number
    signs = []
    while rest > 0:
        rest, at = divmod(rest - 1, len(LETTERS))
        signs.append(LETTERS[at])
    return "".join(reversed(signs))
