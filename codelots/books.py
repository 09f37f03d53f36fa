"""All codes of a text for a count of registers, in their order."""

from codelots.counts import counts_from, many_maps, product_of
from codelots.plain import row_order
from codelots.reading import read_blocks
from codelots.rows import ends, made
from codelots.steps import Steps
from codelots.walks import Walk


class Book:
    """The codes of a text for k registers, in their order; forms is the plain form."""

    def __init__(self, forms, k):
        self.forms = forms
        self.pages = [Page(form, k) for form in forms]
        self.count = product_of([page.count for page in self.pages])

    def code_at(self, number):
        """The code with a number from 0 below the count."""
        rest = number
        blocks = []
        for page in reversed(self.pages):
            rest, at = divmod(rest, page.count)
            blocks.append(page.block_at(at))
        return tuple(reversed(blocks))

    def number_of_code(self, code):
        """The number of a code of the text."""
        number = 0
        for page, at in zip(self.pages, self.numbers_of_blocks(code)):
            number = number * page.count + at
        return number

    def numbers_of_blocks(self, code):
        """The numbers of the blocks of a code of the text, each among its block's codes; a list."""
        told = []
        for page, block, blank in zip(self.pages, code, read_blocks(code)):
            told.append(page.number_of_block(block, row_order(blank)))
        return told


class Page:
    """The codes of a block for k registers, in their order; form is the block's plain form."""

    def __init__(self, form, k):
        self.steps = Steps(form)
        self.k = k
        self.counts = counts_from(self.steps, k)
        self.count = many_maps(len(form[1]), k) * self.counts[0]

    def block_at(self, number):
        """The block of a code with a number from 0 below the count."""
        form = self.steps.form
        at, rest = divmod(number, self.counts[0])
        walk = Walk(form, map_at(at, len(form[1]), self.k), self.k)
        done = 0
        while done != self.steps.whole:
            row, rest = self.row_at(done, rest)
            done = done | 1 << row
            way, rest = divmod(rest, self.counts[done])
            self.write_row(walk, row, way)
        return walk.written()

    def row_at(self, done, number):
        """The row that comes next in the code with a number, of those from a set on.

        Behind it is told the number among those in which that row comes next.
        """
        rest = number
        for row in self.steps.after(done):
            size = self.size(done, row)
            if rest < size:
                break
            rest = rest - size
        return (row, rest)

    def size(self, done, row):
        """How many codes go on from a set with a row."""
        return self.steps.ways(done, row, self.k) * self.counts[done | 1 << row]

    def write_row(self, walk, row, way):
        """Write a row in the way with a number: ends not swapped come first, then lesser registers."""
        if not self.steps.makes[row]:
            walk.go_on(row, False, None)
            return
        free = walk.free(row)
        swapped, at = divmod(way, len(free))
        walk.go_on(row, swapped == 1, free[at])

    def number_of_block(self, block, order):
        """The number of a code's block; order as row_order tells it of the block as it is read."""
        walk = Walk(self.steps.form, block[1], self.k)
        number = map_number(block[1], self.k) * self.counts[0]
        done = 0
        for at in range(len(order)):
            row = order.index(at)
            number = number + sum([self.size(done, lesser) for lesser in self.steps.after(done) if lesser < row])
            done = done | 1 << row
            number = number + follow_row(walk, row, block[2][at]) * self.counts[done]
        return number


def follow_row(walk, row, coded):
    """Write a row as a code has it; told is the number of the way in which it does, as in write_row."""
    swapped = ends(coded) != walk.end_places(row)
    place = made(coded)
    way = 0
    if place is not None:
        free = walk.free(row)
        way = len([lesser for lesser in free if lesser < place])
        if swapped:
            way = way + len(free)
    walk.go_on(row, swapped, place)
    return way


def map_at(number, takes, k):
    """The map with a number, of those of a count of takes into k registers."""
    rest = number
    free = list(range(k))
    told = []
    for at in range(takes):
        place, rest = divmod(rest, many_maps(takes - at - 1, k - at - 1))
        told.append(free.pop(place))
    return tuple(told)


def map_number(places, k):
    """The number of a map into k registers."""
    number = 0
    for at in range(len(places)):
        lesser = [place for place in range(places[at]) if place not in places[:at]]
        number = number + len(lesser) * many_maps(len(places) - at - 1, k - at - 1)
    return number
