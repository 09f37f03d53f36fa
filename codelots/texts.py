"""What is a name, and what is a text, asked of anything.

The shape that texts and codes share is here, too: blocks, rows and finishes,
whatever stands in them for the values, names or registers.
"""

from codelots.finishes import finish_values, ways
from codelots.rows import cell, ends, made, row_values, worth

LONGEST_NAME = 8
# Numbers are whole ones from 0 below this.
NUMBERS = 1000003
MOST_BLOCKS = 6
MOST_ROWS = 14
MOST_VALUES = 6
# How many items a row and a finish have, its word counted.
ROW_SIZES = {"num": 3, "add": 4, "less": 4, "times": 4, "min": 4, "read": 3, "write": 3, "out": 2}
FINISH_SIZES = {"go": 3, "when": 6, "stop": 2}


def is_name(thing):
    """Whether a thing is a text of one to eight small letters."""
    if not isinstance(thing, str) or not 1 <= len(thing) <= LONGEST_NAME:
        return False
    return all(["a" <= sign <= "z" for sign in thing])


def is_text(thing):
    """Whether a thing is a text: blocks of unlike names, with finishes that fit them."""
    return has_shape(thing) and all([has_names(block) for block in thing])


def is_whole(thing):
    """Whether a thing is a whole number, which a truth isn't."""
    return isinstance(thing, int) and not isinstance(thing, bool)


def is_below(thing, bound):
    """Whether a thing is a whole number from 0 below a bound."""
    return is_whole(thing) and 0 <= thing < bound


def has_shape(thing):
    """Whether a thing has the shape of a text or code, whatever stands for its values."""
    if not isinstance(thing, tuple) or not 1 <= len(thing) <= MOST_BLOCKS:
        return False
    takes = {}
    for block in thing:
        if not has_block_shape(block) or block[0] in takes:
            return False
        takes[block[0]] = len(block[1])
    return all([ways_fit(block[3], takes) for block in thing])


def has_block_shape(thing):
    """Whether a thing has the shape of a block, whatever blocks its finish names."""
    if not isinstance(thing, tuple) or len(thing) != 4:
        return False
    name, takes, rows, finish = thing
    if not is_name(name) or not are_few(takes) or not has_finish_shape(finish):
        return False
    if not isinstance(rows, tuple) or len(rows) > MOST_ROWS:
        return False
    return all([has_row_shape(row) for row in rows])


def are_few(thing):
    """Whether a thing is a tuple of at most six, of whatever."""
    return isinstance(thing, tuple) and len(thing) <= MOST_VALUES


def has_row_shape(thing):
    """Whether a thing has the shape of a row."""
    if not begins_with_word(thing) or ROW_SIZES.get(thing[0]) != len(thing):
        return False
    if thing[0] == "num":
        return is_below(thing[2], NUMBERS)
    if thing[0] in ("read", "write"):
        return is_name(cell(thing))
    return True


def has_finish_shape(thing):
    """Whether a thing has the shape of a finish."""
    if not begins_with_word(thing) or FINISH_SIZES.get(thing[0]) != len(thing):
        return False
    if thing[0] == "stop":
        return are_few(thing[1])
    return all([is_name(name) and are_few(args) for name, args in ways(thing)])


def begins_with_word(thing):
    """Whether a thing is a tuple that begins with a word, any one."""
    # What is looked up among the words must be a text: a list is no key of a dict.
    return isinstance(thing, tuple) and len(thing) > 0 and isinstance(thing[0], str)


def ways_fit(finish, takes):
    """Whether a finish names only blocks in takes, with as many values as they have takes."""
    return all([takes.get(name) == len(args) for name, args in ways(finish)])


def block_values(block):
    """All that stands for a value in what has the shape of a block, a list."""
    found = list(block[1])
    for row in block[2]:
        found.extend(row_values(row))
    return found + list(finish_values(block[3]))


def has_names(block):
    """Whether the values of what has the shape of a block are such as a text has."""
    if not all([is_name(value) for value in block_values(block)]):
        return False
    takes = block[1]
    if len(set(takes)) < len(takes):
        return False
    return values_fit(takes, block[2], block[3]) and not has_twins(takes, block[2])


def values_fit(takes, rows, finish):
    """Whether each name is made once, and each end and value is a take or made ahead."""
    known = list(takes)
    for row in rows:
        if not all([end in known for end in ends(row)]):
            return False
        if made(row) is not None:
            if made(row) in known:
                return False
            known.append(made(row))
    return all([value in known for value in finish_values(finish)])


def has_twins(takes, rows):
    """Whether two rows have one worth; each name must be made once."""
    # Ahead of the first row that has one worth with another no two names have
    # the same value, so up to there a name may stand for its value.
    values = {name: name for name in takes}
    for row in rows:
        if made(row) is not None:
            values[made(row)] = made(row)
    found = [worth(rows, at, values) for at in range(len(rows)) if made(rows[at]) is not None]
    return len(set(found)) < len(found)
