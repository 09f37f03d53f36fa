"""The parts of a row, its worth, and what it hangs on.

The ends and the value that a row makes may be of any kind that has an
order: what they stand for is told by the caller.
"""

WORDS = ("num", "add", "less", "times", "min", "read", "write", "out")
PAIRED = ("add", "less", "times", "min")
EVEN = ("add", "times", "min")


def made(row):
    """What a row makes, None of a write or an out."""
    if row[0] in ("write", "out"):
        return None
    return row[1]


def ends(row):
    """The ends of a row, in its order."""
    if row[0] in PAIRED:
        return (row[2], row[3])
    if row[0] == "write":
        return (row[2],)
    if row[0] == "out":
        return (row[1],)
    return ()


def row_values(row):
    """All that stands for a value in a row: what it makes, if it does, and its ends."""
    if row[0] in ("write", "out"):
        return ends(row)
    return (row[1],) + ends(row)


def cell(row):
    """The cell that a row touches, or None."""
    if row[0] == "read":
        return row[2]
    if row[0] == "write":
        return row[1]
    return None


def details(row, values):
    """All of a row but its word and what it makes, each end as values tells it.

    Of even rows the lesser end comes first.
    """
    if row[0] == "num":
        return (row[2],)
    found = tuple([values[end] for end in ends(row)])
    if row[0] in EVEN:
        return tuple(sorted(found))
    if cell(row) is not None:
        return (cell(row),) + found
    return found


def with_values(row, value, row_ends):
    """The row with another value made, if it makes one, and with other ends."""
    if row[0] == "out":
        return (row[0],) + row_ends
    if row[0] == "write":
        return (row[0], row[1]) + row_ends
    if row[0] in PAIRED:
        return (row[0], value) + row_ends
    return (row[0], value, row[2])


def worth(rows, at, values):
    """What just the rows of one worth with rows[at] share; that row must make a value.

    Writes and outs have one worth with none.
    """
    row = rows[at]
    if row[0] == "read":
        return (row[0], row[2], writes_ahead(rows, at))
    return (row[0],) + details(row, values)


def writes_ahead(rows, at):
    """How many rows ahead of a read write its cell."""
    return len([row for row in rows[:at] if row[0] == "write" and cell(row) == cell(rows[at])])


def hangs_on(row, ahead):
    """Whether a row hangs on one that is ahead of it in its block."""
    if made(ahead) in ends(row):
        return True
    if row[0] == "out" and ahead[0] == "out":
        return True
    if cell(row) is None or cell(row) != cell(ahead):
        return False
    return row[0] == "write" or ahead[0] == "write"


def hanging(rows):
    """For each row a list of the numbers of the rows that it hangs on."""
    found = []
    for at in range(len(rows)):
        found.append([k for k in range(at) if hangs_on(rows[at], rows[k])])
    return found


def following(hung, done):
    """The rows that aren't in done and hang on rows in it alone, rising; hung as hanging tells it."""
    return [at for at in range(len(hung)) if at not in done and all([k in done for k in hung[at]])]
