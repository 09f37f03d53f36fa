"""Runs of a text."""

from codelots.finishes import renamed, ways
from codelots.texts import NUMBERS


def run(text, inputs, *, cells=None, most=500):
    """A run of at most some blocks: the numbers told, the cells behind it, the end."""
    blocks = {block[0]: block for block in text}
    outs = []
    kept = {}
    if cells is not None:
        kept = dict(cells)
    end = ("on", text[0][0], tuple(inputs))
    for _ in range(most):
        end = end_of_block(blocks[end[1]], end[2], kept, outs)
        if end[0] == "stop":
            break
    return (outs, kept, end)


def end_of_block(block, inputs, cells, outs):
    """Where a run of a block ends; cells and outs get what it writes and tells."""
    values = dict(zip(block[1], inputs))
    for row in block[2]:
        do_row(row, values, cells, outs)
    finish = block[3]
    if finish[0] == "stop":
        return ("stop", renamed(finish[1], values))
    name, args = way_taken(finish, values)
    return ("on", name, renamed(args, values))


def way_taken(finish, values):
    """The way that a go or when takes: the name of a block and the values for it."""
    if finish[0] == "when" and values[finish[1]] == 0:
        return ways(finish)[1]
    return ways(finish)[0]


def do_row(row, values, cells, outs):
    """Do one row: values, cells or outs get what comes of it."""
    if row[0] == "write":
        cells[row[1]] = values[row[2]]
    elif row[0] == "out":
        outs.append(values[row[1]])
    else:
        values[row[1]] = made_number(row, values, cells)


def made_number(row, values, cells):
    """The number that a row makes."""
    if row[0] == "num":
        return row[2]
    if row[0] == "read":
        return cells.get(row[2], 0)
    one = values[row[2]]
    other = values[row[3]]
    if row[0] == "add":
        return (one + other) % NUMBERS
    if row[0] == "less":
        return (one - other) % NUMBERS
    if row[0] == "times":
        return (one * other) % NUMBERS
    return min(one, other)
