"""Codes of a block, written row by row."""

from codelots.finishes import renamed_finish
from codelots.rows import ends, made, with_values
from codelots.sets import living


class Walk:
    """A block's code for k registers that is being written; form is the block's plain form."""

    def __init__(self, form, places, k):
        self.form = form
        self.places = places
        self.k = k
        self.lies = dict(zip(form[1], places))
        self.done = ()
        self.rows = []

    def free(self, row):
        """The registers in which nothing lies that lives behind the row, rising."""
        own = made(self.form[2][row])
        behind = living(self.form, self.done + (row,))
        full = [self.lies[value] for value in behind if value != own]
        return [place for place in range(self.k) if place not in full]

    def end_places(self, row):
        """The registers in which the row's ends lie, in the plain form's order."""
        return tuple([self.lies[end] for end in ends(self.form[2][row])])

    def go_on(self, row, swapped, place):
        """Write a row, its ends perhaps swapped; place is where its value goes, if it makes one."""
        told = self.form[2][row]
        found = self.end_places(row)
        if swapped:
            found = found[::-1]
        self.rows.append(with_values(told, place, found))
        self.done = self.done + (row,)
        if made(told) is not None:
            self.lies[made(told)] = place

    def written(self):
        """The block of a code, once all rows are written."""
        name, _, _, finish = self.form
        return (name, self.places, tuple(self.rows), renamed_finish(finish, self.lies))
