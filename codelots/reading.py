"""Codes read: the text that a code comes to."""

from codelots.errors import Empty, Twin
from codelots.finishes import finish_values, renamed_finish
from codelots.plain import plain
from codelots.rows import details, ends, made, worth


def read(code):
    """The plain form of the text that a code comes to (Empty, Twin)."""
    return plain(read_blocks(code))


def read_blocks(code):
    """The text that a code comes to, with its rows as they stand in the code (Empty, Twin)."""
    return tuple([read_block(code[at], at) for at in range(len(code))])


def read_block(block, number):
    """The block of a text that a code's block with a number comes to.

    Its values are numbers: those of the takes, then those that are made.
    """
    name, registers, rows, finish = block
    takes = tuple(range(len(registers)))
    lies = dict(zip(registers, takes))
    new_rows = read_rows(rows, lies, number)
    if not all_lie(finish_values(finish), lies):
        raise Empty(number, len(rows))
    return (name, takes, new_rows, renamed_finish(finish, lies))


def read_rows(rows, lies, number):
    """The rows with values for registers; lies tells which value lies in each, and is kept up."""
    worths = []
    told = []
    takes = len(lies)
    for at in range(len(rows)):
        row = rows[at]
        if not all_lie(ends(row), lies):
            raise Empty(number, at)
        new_ends = details(row, lies)
        if made(row) is None:
            told.append((row[0],) + new_ends)
            continue
        # Up to the first twin no two values are the same, so their numbers stand for them.
        row_worth = worth(rows, at, lies)
        if row_worth in worths:
            raise Twin(number, at)
        value = takes + len(worths)
        told.append((row[0], value) + new_ends)
        worths.append(row_worth)
        lies[made(row)] = value
    return tuple(told)


def all_lie(registers, lies):
    """Whether a value lies in each of the registers."""
    return all([place in lies for place in registers])
