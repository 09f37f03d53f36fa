"""Codes of the least price, and worths that show that none costs less."""

from codelots.errors import NoCode
from codelots.plain import plain, plain_block, row_order
from codelots.reading import read_blocks
from codelots.rows import hanging
from codelots.sets import all_sets, is_done, living
from codelots.steps import Steps, bits, size_of
from codelots.texts import is_whole
from codelots.walks import Walk


def cheapest(text, k, prices):
    """The code for k registers of the least price, of such the one first in order, and that price (NoCode)."""
    blocks = []
    price = 0
    for form in plain(text):
        steps = Steps(form)
        found = worths_from(steps, k, prices)
        if len(form[1]) > k or found[0] is None:
            raise NoCode("the text has no code for so many registers")
        blocks.append(cheapest_block(steps, k, prices, found))
        price = price + found[0]
    return (tuple(blocks), price)


def cheapest_block(steps, k, prices, found):
    """The block first in order of those of the least price; found as worths_from tells it."""
    walk = Walk(steps.form, tuple(range(len(steps.form[1]))), k)
    done = 0
    while done != steps.whole:
        rows = rows_with_worth(steps, done, k, found)
        row = [least for least in rows if price_with(steps, done, least, prices, found) == found[done]][0]
        place = None
        if steps.makes[row]:
            place = walk.free(row)[0]
        walk.go_on(row, False, place)
        done = done | 1 << row
    return walk.written()


def price_of(code, prices):
    """What a code costs (Empty, Twin)."""
    return sum([block_price(block, prices) for block in read_blocks(code)])


def block_price(block, prices):
    """What a block costs that a code's block is read as."""
    form = plain_block(block)
    order = row_order(block)
    done = ()
    price = 0
    for at in range(len(order)):
        row = order.index(at)
        lives = len(living(form, done + (row,)))
        price = price + row_price(form[2][row], len(done), lives, prices)
        done = done + (row,)
    return price


def worths(text, block, k, prices):
    """A dict from each done set of a block to the least price from it on, None where no code goes on."""
    form = plain_block(text[block])
    found = worths_from(Steps(form), k, prices)
    return {done: found[bits(done)] for done in all_sets(hanging(form[2]))}


def worths_from(steps, k, prices):
    """As worths, with the sets as bits."""
    found = {steps.whole: 0}
    for done in steps.backwards():
        rows = rows_with_worth(steps, done, k, found)
        found[done] = min([price_with(steps, done, row, prices, found) for row in rows], default=None)
    return found


def rows_with_worth(steps, done, k, found):
    """The rows that may follow a set with a place and come to a set with a worth, rising."""
    rows = [row for row in steps.after(done) if found[done | 1 << row] is not None]
    return [row for row in rows if steps.places_for(done, row, k) > 0]


def price_with(steps, done, row, prices, found):
    """What a row costs behind a set, and the worth of the set with it."""
    behind = done | 1 << row
    return row_price(steps.form[2][row], size_of(done), steps.lives[behind], prices) + found[behind]


def row_price(row, size, lives, prices):
    """What a row costs behind a set of a size, where so many values live behind the set with it."""
    words, hold = prices
    numbers = words[row[0]]
    # A block somewhat longer than the fourteen numbers has its last rows for the last one.
    return numbers[min(size, len(numbers) - 1)] + hold * lives


def shows_least(text, block, k, prices, told, price):
    """Whether worths, of anybody, show that no code's block for k registers costs less than a price."""
    form = plain_block(text[block])
    if not are_worths(told, form) or not is_whole(price):
        return False
    steps = Steps(form)
    found = {bits(done): told[done] for done in told}
    last = found[steps.whole]
    if last is None or last > 0 or found[0] != price:
        return False
    return all([is_shown(steps, done, k, prices, found) for done in steps.backwards()])


def are_worths(told, form):
    """Whether a thing is a dict from all done sets of a block to whole numbers or None."""
    hung = hanging(form[2])
    if not isinstance(told, dict) or not all([is_done(done, hung) for done in told]):
        return False
    if not all([worth is None or is_whole(worth) for worth in list(told.values())]):
        return False
    return len(told) == len(all_sets(hung))


def is_shown(steps, done, k, prices, found):
    """Whether a set's worth is at most what each way on with a worth costs."""
    own = found[done]
    rows = rows_with_worth(steps, done, k, found)
    if own is None:
        return len(rows) == 0
    return all([own <= price_with(steps, done, row, prices, found) for row in rows])
