"""The steps of a block from done set to done set, and how many values live behind each.

Here sets are told as bits, the lowest one for row 0. Thus each set is less than
those that it comes to, and a block of fourteen rows that are free of each other
is gone through in good time.
"""

from codelots.finishes import finish_values
from codelots.rows import EVEN, ends, hanging, made


class Steps:
    """The steps of a block, which must be in its plain form."""

    def __init__(self, form):
        rows = form[2]
        used = uses(form)
        self.form = form
        self.whole = (1 << len(rows)) - 1
        self.needs = [bits(hung) for hung in hanging(rows)]
        self.makes = [made(row) is not None for row in rows]
        self.turns = [row_turns(row) for row in rows]
        self.own = [own_lives(row, used) for row in rows]
        self.lives = live_counts(form, used, self.needs, self.own)

    def after(self, done):
        """The rows that may follow a done set, rising."""
        return [row for row in range(len(self.needs)) if may_be_next(done, row, self.needs[row])]

    def backwards(self):
        """All done sets but that of all rows, each one behind those that it comes to."""
        return sorted(self.lives, reverse=True)[1:]

    def crowd(self, done, row):
        """How many values live behind the set with a row, its own not counted."""
        return self.lives[done | 1 << row] - self.own[row]

    def places_for(self, done, row, k):
        """How many of k registers the row can put its value in; 1 where it makes none."""
        if not self.makes[row]:
            return 1
        return max(0, k - self.crowd(done, row))

    def ways(self, done, row, k):
        """In how many ways a code for k registers can do the row behind the set."""
        return self.places_for(done, row, k) * self.turns[row]


def bits(rows):
    """A set of rows as bits."""
    told = 0
    for row in rows:
        told = told | 1 << row
    return told


def rows_in(done):
    """The rows of a set that is told as bits, a rising tuple."""
    return tuple([row for row in range(done.bit_length()) if done >> row & 1 == 1])


def size_of(done):
    """How many rows are in a set that is told as bits."""
    return f"{done:b}".count("1")


def may_be_next(done, row, needed):
    """Whether a row isn't in a set and all that it needs is."""
    return done >> row & 1 == 0 and done & needed == needed


def row_turns(row):
    """In how many ways the ends of a plain form's row may be written."""
    if row[0] in EVEN and row[2] != row[3]:
        return 2
    return 1


def uses(form):
    """For each value the rows that take it, as bits.

    The finish counts as one more row, which is never done.
    """
    rows = form[2]
    found = {take: 0 for take in form[1]}
    for at in range(len(rows)):
        for end in ends(rows[at]):
            found[end] = found[end] | 1 << at
        if made(rows[at]) is not None:
            found[made(rows[at])] = 0
    for value in finish_values(form[3]):
        found[value] = found[value] | 1 << len(rows)
    return found


def own_lives(row, used):
    """How many values of its own, 1 or 0, live as long as no row is done that takes them."""
    if made(row) is None or used[made(row)] == 0:
        return 0
    return 1


def live_counts(form, used, needs, own):
    """A dict from each done set to how many values live behind it, the sets rising."""
    rows = form[2]
    counts = {0: len([take for take in form[1] if used[take] > 0])}
    for row in range(len(rows)):
        ended = [used[end] for end in sorted(set(ends(rows[row])))]
        # A plain form's row needs lesser ones alone: each set with this row as its
        # last comes of one without it.
        for done in list(counts):
            if done & needs[row] == needs[row]:
                behind = done | 1 << row
                dying = len([takers for takers in ended if takers & behind == takers])
                counts[behind] = counts[done] + own[row] - dying
    return counts
