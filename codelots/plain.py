"""The plain form of a text, and where two texts differ."""

from codelots.finishes import renamed, renamed_finish
from codelots.rows import WORDS, details, following, hanging, made

LETTERS = "abcdefghijklmnopqrstuvwxyz"


def plain(text):
    """The plain form of a text."""
    return tuple([plain_block(block) for block in text])


def are_one(text, other):
    """Whether two texts have the same plain form."""
    return plain(text) == plain(other)


def first_unlike(text, other):
    """The first block and row where the plain forms of two texts differ, or None."""
    blocks = plain(text)
    others = plain(other)
    both = min(len(blocks), len(others))
    for at in range(both):
        if blocks[at] != others[at]:
            return (at, many_alike(blocks[at][2], others[at][2]))
    if len(blocks) != len(others):
        return (both, 0)
    return None


def many_alike(rows, others):
    """How many rows are alike, up to the first two that aren't."""
    for at in range(min(len(rows), len(others))):
        if rows[at] != others[at]:
            return at
    return min(len(rows), len(others))


def plain_block(block):
    """The plain form of a block."""
    name, takes, rows, finish = block
    letters = take_letters(takes)
    order = lettered_order(rows, letters)
    new_rows = tuple([plain_row(rows[at], letters) for at in order])
    return (name, renamed(takes, letters), new_rows, renamed_finish(finish, letters))


def row_order(block):
    """The numbers of a block's rows, in the order in which its plain form has them."""
    return lettered_order(block[2], take_letters(block[1]))


def take_letters(takes):
    """What the plain form names the takes, a dict."""
    return {takes[at]: letter(at) for at in range(len(takes))}


def lettered_order(rows, letters):
    """The order in which the plain form has the rows; letters gets the values that they make."""
    hung = hanging(rows)
    came = []
    while len(came) < len(rows):
        at = min(following(hung, came), key=lambda k: row_key(rows[k], letters))
        came.append(at)
        if made(rows[at]) is not None:
            letters[made(rows[at])] = letter(len(letters))
    return came


def row_key(row, letters):
    """What decides which row comes first in the plain form."""
    return (WORDS.index(row[0]),) + details(row, letters)


def plain_row(row, letters):
    """The row as the plain form has it."""
    if made(row) is None:
        return (row[0],) + details(row, letters)
    return (row[0], letters[made(row)]) + details(row, letters)


def letter(at):
    """The name of the take or made value with a number, later ones being greater.

    A text has at most twenty of them; ones beyond the alphabet are named too,
    so that a somewhat longer text has a plain form.
    """
    return "z" * (at // len(LETTERS)) + LETTERS[at % len(LETTERS)]
