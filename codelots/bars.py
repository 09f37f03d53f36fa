"""Papers that show that a text has no code for a count of registers."""

from codelots.plain import plain, plain_block
from codelots.rows import hanging
from codelots.sets import is_done
from codelots.steps import Steps, bits, rows_in
from codelots.texts import is_below


def is_bar(text, k, thing):
    """Whether a thing is a paper that a text has no code for k registers."""
    if not isinstance(thing, tuple) or len(thing) != 2:
        return False
    block, told = thing
    if not is_below(block, len(text)) or not isinstance(told, tuple):
        return False
    form = plain_block(text[block])
    if len(told) == 0:
        return len(form[1]) > k
    hung = hanging(form[2])
    if not all([is_done(done, hung) for done in told]):
        return False
    return is_closed({bits(done): True for done in told}, Steps(form), k)


def is_closed(found, steps, k):
    """Whether codes for k registers begin in sets that are found, stay there and never come to an end."""
    if 0 not in found or steps.whole in found:
        return False
    return all([all([behind in found for behind in reached(steps, done, k)]) for done in found])


def reached(steps, done, k):
    """The sets that a code for k registers can come to from a set by one row."""
    return [done | 1 << row for row in steps.after(done) if steps.places_for(done, row, k) > 0]


def bar(text, k):
    """A paper that a text has no code for k registers, or None where it has one."""
    forms = plain(text)
    for at in range(len(forms)):
        if len(forms[at][1]) > k:
            return (at, ())
        steps = Steps(forms[at])
        found = all_reached(steps, k)
        if steps.whole not in found:
            return (at, tuple([rows_in(done) for done in found]))
    return None


def all_reached(steps, k):
    """The sets that codes for k registers can come to, a dict, by rising bits."""
    found = {0: True}
    for done in steps.lives:
        if done in found:
            for behind in reached(steps, done, k):
                found[behind] = True
    return found
