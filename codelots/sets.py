"""Done sets of a block's rows, what may follow them and what lives behind them.

A form is a block's plain form; rows are told by their numbers in it.
"""

from codelots.errors import NoSet
from codelots.finishes import finish_values
from codelots.plain import plain_block
from codelots.rows import ends, following, hanging, made
from codelots.texts import is_below


def sets(text, block):
    """The done sets of a block, by length, then as tuples."""
    return all_sets(hanging(plain_block(text[block])[2]))


def may_follow(text, block, done):
    """The rows that may follow a done set, rising (NoSet)."""
    form = done_form(text, block, done)
    return following(hanging(form[2]), done)


def live(text, block, done):
    """The values that live behind a done set, as letters, rising (NoSet)."""
    form = done_form(text, block, done)
    return living(form, done)


def crowd(text, block, done, row):
    """How many values but the row's own live behind a done set with a row (NoSet)."""
    form = done_form(text, block, done)
    return crowding(form, done, row)


def done_form(text, block, done):
    """The plain form of a block of which a thing is a done set, else NoSet."""
    form = plain_block(text[block])
    if not is_done(done, hanging(form[2])):
        raise NoSet("no done set of the block")
    return form


def all_sets(hung):
    """All done sets, by length, then as tuples; hung as hanging tells it of a plain form's rows."""
    # There rows hang on rows with lesser numbers alone, so each set comes of
    # one without its last row.
    found = [()]
    for at in range(len(hung)):
        longer = [done + (at,) for done in found if all_in(hung[at], done)]
        found = found + longer
    return sorted(found, key=lambda done: (len(done), done))


def is_done(thing, hung):
    """Whether a thing is a done set, a rising tuple; hung as hanging tells it."""
    if not isinstance(thing, tuple) or not all([is_below(at, len(hung)) for at in thing]):
        return False
    if any([thing[k] >= thing[k + 1] for k in range(len(thing) - 1)]):
        return False
    return all([all_in(hung[at], thing) for at in thing])


def all_in(rows, done):
    """Whether each of the rows is in a set."""
    return all([row in done for row in rows])


def living(form, done):
    """The values that live behind a done set, in whatever order it is told, rising."""
    rows = form[2]
    wanted = list(finish_values(form[3]))
    had = list(form[1])
    for at in range(len(rows)):
        if at not in done:
            wanted.extend(ends(rows[at]))
        elif made(rows[at]) is not None:
            had.append(made(rows[at]))
    return [value for value in sorted(had) if value in wanted]


def crowding(form, done, row):
    """How many values live behind a done set with a row that makes one, its own not counted."""
    own = made(form[2][row])
    return len([value for value in living(form, done + (row,)) if value != own])
