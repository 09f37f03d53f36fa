"""Papers about texts: tables of counts, and pairings of the rows of two texts."""

from codelots.counts import polynomials_from
from codelots.plain import are_one, plain_block, row_order
from codelots.rows import hanging
from codelots.sets import all_sets, is_done
from codelots.steps import Steps, bits
from codelots.texts import is_whole


def table(text, block):
    """A dict from each done set of a block to the polynomial of the codes from it on."""
    form = plain_block(text[block])
    found = polynomials_from(Steps(form))
    return {done: found[bits(done)] for done in all_sets(hanging(form[2]))}


def is_table(text, block, thing):
    """Whether a thing is the table of a block."""
    if not isinstance(thing, dict):
        return False
    hung = hanging(plain_block(text[block])[2])
    if not all([is_done(done, hung) and are_whole(thing[done]) for done in thing]):
        return False
    return thing == table(text, block)


def are_whole(thing):
    """Whether a thing is a list of whole numbers."""
    return isinstance(thing, list) and all([is_whole(number) for number in thing])


def pairing(text, other):
    """For each block of a text the rows of the other one's that its rows are paired with, or None."""
    if not are_one(text, other):
        return None
    return tuple([block_pairing(block, paired) for block, paired in zip(text, other)])


def block_pairing(block, other):
    """The rows of the other block that those of a block are paired with: both have one plain form."""
    order = row_order(block)
    other_order = row_order(other)
    return tuple([other_order[order.index(row)] for row in range(len(order))])


def is_pairing(text, other, thing):
    """Whether a thing is a pairing of two texts."""
    # There is never more than the one that pairing tells.
    if not isinstance(thing, tuple) or not all([are_row_numbers(rows) for rows in thing]):
        return False
    return thing == pairing(text, other)


def are_row_numbers(thing):
    """Whether a thing is a tuple of whole numbers."""
    return isinstance(thing, tuple) and all([is_whole(row) for row in thing])
