"""What the document promises of counts, codes in order, papers and prices, by its words and not by the program's parts.

All but the plain form and reading, which have tests of their own.
"""

import functools
import itertools

from codelots.errors import Empty, Twin
from codelots.plain import plain
from codelots.reading import read
from tests.samples import EVEN, free_registers, hung, led_args, led_finish, living_in, one_block

# So small that all their codes can be found by trying.
TINY = [
    one_block([("add", "p", "x", "y"), ("less", "q", "p", "x")], finish=("stop", ("q",))),
    one_block([("add", "p", "x", "y"), ("min", "q", "x", "x")], finish=("stop", ("q", "y"))),
    one_block([("num", "n", 1), ("times", "q", "x", "n")], ("x",), ("stop", ("x",))),
    one_block([("num", "n", 1), ("num", "m", 2)], ("x",), ("stop", ("n",))),
    one_block([("read", "r", "c"), ("write", "c", "x"), ("read", "s", "c")], ("x",), ("stop", ("r",))),
    one_block([("out", "x"), ("num", "n", 1), ("out", "n")], ("x",)),
    one_block([("num", "n", 1), ("out", "n"), ("num", "m", 2), ("out", "m")], ()),
]


def done_sets(form):
    """All done sets of a plain form's block, by length, then as tuples."""
    rows = form[2]
    on = hung(rows)
    return [
        done for size in range(len(rows) + 1) for done in itertools.combinations(range(len(rows)), size)
        if all(on[at] <= set(done) for at in done)
    ]


def following_rows(form, done):
    on = hung(form[2])
    return [at for at in range(len(form[2])) if at not in done and on[at] <= set(done)]


def makes(row):
    return row[0] not in ("write", "out")


def with_row(done, at):
    return tuple(sorted(done + (at,)))


def crowd_of(form, done, at):
    return len(living_in(form, with_row(done, at)) - {form[2][at][1]})


def turns_of(row):
    return 2 if row[0] in EVEN and row[2] != row[3] else 1


def places_for(form, done, at, k):
    return max(0, k - crowd_of(form, done, at)) if makes(form[2][at]) else 1


def counts_of(form, k):
    """A dict from each done set to the count of codes from it on."""
    found = {}
    for done in reversed(done_sets(form)):
        found[done] = 1 if len(done) == len(form[2]) else sum(
            places_for(form, done, at, k) * turns_of(form[2][at]) * found[with_row(done, at)]
            for at in following_rows(form, done)
        )
    return found


def block_count_of(form, k):
    total = counts_of(form, k)[()]
    for less in range(len(form[1])):
        total *= k - less
    return total


def count_of(text, k):
    total = 1
    for form in plain(text):
        total *= block_count_of(form, k)
    return total


@functools.lru_cache(maxsize=None)
def block_codes(form, k):
    """All codes of a plain form's block for k registers, in their order."""
    told = []
    for places in itertools.permutations(range(k), len(form[1])):
        lies = dict(zip(form[1], places))
        told.extend(block_codes_from(form, k, places, (), (), lies))
    return told


def block_codes_from(form, k, places, done, rows, lies):
    """Those that begin with rows, which do the rows in done, one behind the other; lies tells where values are."""
    name, _, form_rows, finish = form
    if len(done) == len(form_rows):
        yield (name, places, rows, led_finish(finish, lies))
        return
    for at in following_rows(form, done):
        row = form_rows[at]
        for coded_ends in coded_ends_of(row, lies):
            if not makes(row):
                told = row[:2] + coded_ends if row[0] == "write" else row[:1] + coded_ends
                yield from block_codes_from(form, k, places, done + (at,), rows + (told,), lies)
                continue
            holds = {}
            for value, place in lies.items():
                # What came into a register later stands later in the dict.
                holds[place] = value
            for place in free_registers(form, done + (at,), holds, k):
                told = (row[0], place) + (coded_ends if len(row) == 4 else row[2:])
                now = {value: where for value, where in lies.items() if where != place}
                now[row[1]] = place
                yield from block_codes_from(form, k, places, done + (at,), rows + (told,), now)


def coded_ends_of(row, lies):
    if row[0] in ("num", "read"):
        return [()]
    if not makes(row):
        return [(lies[row[-1]],)]
    found = led_args(row[2:], lies)
    return [found, found[::-1]] if turns_of(row) == 2 else [found]


def codes(text, k):
    """All codes of a text for k registers, in their order."""
    return list(itertools.product(*[block_codes(form, k) for form in plain(text)]))


def is_paper(text, k, block, told):
    """Whether done sets of a block show that there is no code, by the document's words."""
    form = plain(text)[block]
    if len(form[1]) > k and told == ():
        return True
    if () not in told or tuple(range(len(form[2]))) in told:
        return False
    return all(
        with_row(done, at) in told or (makes(form[2][at]) and crowd_of(form, done, at) >= k)
        for done in told for at in following_rows(form, done)
    )


def row_price_of(form, done, at, prices):
    return prices[0][form[2][at][0]][len(done)] + prices[1] * len(living_in(form, with_row(done, at)))


def worths_of(form, k, prices):
    """A dict from each done set to the least price from it on, or None."""
    found = {}
    counts = counts_of(form, k)
    for done in reversed(done_sets(form)):
        ways = [
            row_price_of(form, done, at, prices) + found[with_row(done, at)]
            for at in following_rows(form, done)
            if places_for(form, done, at, k) and counts[with_row(done, at)]
        ]
        found[done] = 0 if len(done) == len(form[2]) else min(ways) if counts[done] else None
    return found


def block_price_of(form, block, prices):
    """What a code's block costs, its rows being found again in the plain form."""
    total, done = 0, ()
    for at in rows_done(form, block):
        total += row_price_of(form, done, at, prices)
        done = with_row(done, at)
    return total


def rows_done(form, block):
    """The numbers in the plain form of the rows of a code's block."""
    holds = dict(zip(block[1], form[1]))
    told = []
    for row in block[2]:
        for at, other in enumerate(form[2]):
            if at not in told and is_led_row(row, other, holds):
                break
        else:
            raise AssertionError((row, form))
        told.append(at)
        if makes(row):
            holds[row[1]] = form[2][at][1]
    return told


def words():
    """All words of small letters, in their order."""
    for length in itertools.count():
        for signs in itertools.product("abcdefghijklmnopqrstuvwxyz", repeat=length):
            yield "".join(signs)


def is_paired(text, other, thing):
    """Whether a tuple of tuples of rows is a pairing, by the document's words."""
    if len(text) != len(other) or len(thing) != len(text):
        return False
    return all(is_block_paired(*parts) for parts in zip(text, other, thing))


def is_block_paired(block, other, told):
    name, takes, rows, finish = block
    other_name, other_takes, other_rows, other_finish = other
    if (name, len(takes), len(rows)) != (other_name, len(other_takes), len(other_rows)):
        return False
    if sorted(told) != list(range(len(rows))):
        return False
    led = dict(zip(takes, other_takes))
    for at, row in enumerate(rows):
        if makes(row) != makes(other_rows[told[at]]):
            return False
        if makes(row):
            led[row[1]] = other_rows[told[at]][1]
    for at, row in enumerate(rows):
        if not is_led_row(row, other_rows[told[at]], led):
            return False
    if len(finish) != len(other_finish) or finish[0] != other_finish[0] or led_finish(finish, led) != other_finish:
        return False
    return all(told[k] < told[at] for at in range(len(rows)) for k in range(at) if are_bound(rows[k], rows[at]))


def is_led_row(row, other, led):
    """Whether a row is another one, once its ends are led over; even ones in either order."""
    if row[0] != other[0]:
        return False
    if row[0] in ("num", "read"):
        return row[2] == other[2]
    if row[0] == "write":
        return (row[1], led[row[2]]) == other[1:]
    if row[0] == "out":
        return (led[row[1]],) == other[1:]
    pair = (led[row[2]], led[row[3]])
    return pair == other[2:] or (row[0] in EVEN and pair[::-1] == other[2:])


def are_bound(row, other):
    if row[0] == other[0] == "out":
        return True
    cells = [{"read": part[-1], "write": part[1]}.get(part[0]) for part in (row, other)]
    return cells[0] is not None and cells[0] == cells[1] and (row[0], other[0]) != ("read", "read")


def candidates(text, k):
    """All codes for k registers with the rows of a text of one block in any order, whatever registers they have."""
    name, takes, rows, finish = plain(text)[0]
    for places in itertools.permutations(range(k), len(takes)):
        for order in itertools.permutations(rows):
            for told in itertools.product(*[coded(row, k) for row in order]):
                for values in itertools.product(range(k), repeat=len(finish[1])):
                    yield ((name, places, told, ("stop", values)),)


def coded(row, k):
    """A row with all registers in the place of its values."""
    if row[0] in ("num", "read"):
        return [(row[0], one, row[2]) for one in range(k)]
    if row[0] == "write":
        return [(row[0], row[1], one) for one in range(k)]
    return [(row[0],) + told for told in itertools.product(range(k), repeat=len(row) - 1)]


def reads_to(thing, text):
    try:
        return read(thing) == plain(text)
    except (Empty, Twin):
        return False
