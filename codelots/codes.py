"""What is a code, asked of anything, and runs of a code."""

from codelots.runs import run
from codelots.texts import block_values, has_shape, is_below


def is_code(thing, k):
    """Whether a thing is a code for k registers."""
    return has_shape(thing) and all([has_registers(block, k) for block in thing])


def has_registers(block, k):
    """Whether the values of what has the shape of a block are such as a code has."""
    if not all([is_below(value, k) for value in block_values(block)]):
        return False
    return len(set(block[1])) == len(block[1])


def run_code(code, inputs, *, cells=None, most=500):
    """A run of a code that can be read: what run tells of a text."""
    # A run looks values up by what stands for them, reads a row's ends ahead of
    # putting what it makes, and begins each block with its takes alone: so
    # registers may stand where a text has names.
    return run(code, inputs, cells=cells, most=most)
