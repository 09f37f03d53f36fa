"""What is a name, and what is a text, asked of anything."""

from codelots.finishes import finish_values, ways
from codelots.rows import ends, made, worth

LONGEST_NAME = 8
MOST_NUMBER = 1000002
MOST_BLOCKS = 6
MOST_ROWS = 14
MOST_VALUES = 6
# How many items a row and a finish have, its word counted.
ROW_SIZES = {"num": 3, "add": 4, "less": 4, "times": 4, "min": 4, "read": 3, "write": 3, "out": 2}
FINISH_SIZES = {"go": 3, "when": 6, "stop": 2}


def is_name(thing):
    """Whether a thing is a text of one to eight small letters."""
    if not isinstance(thing, str) or not 1 <= len(thing) <= LONGEST_NAME:
        return False
    return all(["a" <= sign <= "z" for sign in thing])


def is_text(thing):
    """Whether a thing is a text: blocks of unlike names, with finishes that fit them."""
    if not isinstance(thing, tuple) or not 1 <= len(thing) <= MOST_BLOCKS:
        return False
    takes = {}
    for block in thing:
        if not is_block(block) or block[0] in takes:
            return False
        takes[block[0]] = len(block[1])
    return all([ways_fit(block[3], takes) for block in thing])


def is_block(thing):
    """Whether a thing is a block, whatever blocks its finish names."""
    if not isinstance(thing, tuple) or len(thing) != 4:
        return False
    name, takes, rows, finish = thing
    if not is_name(name) or not are_names(takes) or len(set(takes)) < len(takes):
        return False
    if not are_rows(rows) or not is_finish(finish):
        return False
    return values_fit(takes, rows, finish) and not has_twins(takes, rows)


def are_names(thing):
    """Whether a thing is a tuple of at most six names, some perhaps twice."""
    if not isinstance(thing, tuple) or len(thing) > MOST_VALUES:
        return False
    return all([is_name(name) for name in thing])


def are_rows(thing):
    """Whether a thing is a tuple of at most fourteen rows, whatever ends they have."""
    if not isinstance(thing, tuple) or len(thing) > MOST_ROWS:
        return False
    return all([is_row(row) for row in thing])


def is_row(thing):
    """Whether a thing is a row, whatever ends it has."""
    if not begins_with_word(thing) or ROW_SIZES.get(thing[0]) != len(thing):
        return False
    if thing[0] == "num":
        return is_name(thing[1]) and is_number(thing[2])
    return all([is_name(part) for part in thing[1:]])


def is_finish(thing):
    """Whether a thing is a finish, whatever values and blocks it names."""
    if not begins_with_word(thing) or FINISH_SIZES.get(thing[0]) != len(thing):
        return False
    if thing[0] == "stop":
        return are_names(thing[1])
    if thing[0] == "when" and not is_name(thing[1]):
        return False
    return all([is_name(name) and are_names(args) for name, args in ways(thing)])


def begins_with_word(thing):
    """Whether a thing is a tuple that begins with a word, any one."""
    # What is looked up among the words must be a text: a list is no key of a dict.
    return isinstance(thing, tuple) and len(thing) > 0 and isinstance(thing[0], str)


def is_number(thing):
    """Whether a thing is a whole number that a row may have."""
    if not isinstance(thing, int) or isinstance(thing, bool):
        return False
    return 0 <= thing <= MOST_NUMBER


def values_fit(takes, rows, finish):
    """Whether each name is made once, and each end and value is a take or made ahead."""
    known = list(takes)
    for row in rows:
        if not all([end in known for end in ends(row)]):
            return False
        if made(row) is not None:
            if made(row) in known:
                return False
            known.append(made(row))
    return all([value in known for value in finish_values(finish)])


def has_twins(takes, rows):
    """Whether two rows have one worth; each name must be made once."""
    # Ahead of the first row that has one worth with another no two names have
    # the same value, so up to there a name may stand for its value.
    values = {name: name for name in takes}
    for row in rows:
        if made(row) is not None:
            values[made(row)] = made(row)
    found = [worth(rows, at, values) for at in range(len(rows)) if made(rows[at]) is not None]
    return len(set(found)) < len(found)


def ways_fit(finish, takes):
    """Whether a finish names only blocks in takes, with as many values as they have takes."""
    return all([takes.get(name) == len(args) for name, args in ways(finish)])
