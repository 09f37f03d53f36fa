"""The counts of the codes of a text."""

from codelots.plain import plain
from codelots.steps import Steps


def many(text, k):
    """The count of the codes of a text for k registers."""
    return product_of([block_count(Steps(form), k) for form in plain(text)])


def polynomial(text):
    """The polynomial that tells the counts: number i is that of the power i."""
    told = [1]
    for form in plain(text):
        told = poly_product(told, block_polynomial(Steps(form)))
    return told


def least(text):
    """The least count of registers for which a text has a code."""
    return max([block_least(Steps(form)) for form in plain(text)])


def product_of(numbers):
    """The product of numbers, 1 of none."""
    told = 1
    for number in numbers:
        told = told * number
    return told


def many_maps(takes, k):
    """How many tuples of unlike registers there are for a count of takes."""
    return product_of([k - at for at in range(takes)])


def block_count(steps, k):
    """The count of a block's codes for k registers."""
    return many_maps(len(steps.form[1]), k) * counts_from(steps, k)[0]


def counts_from(steps, k):
    """A dict from each done set to the count of codes from it on, for k registers."""
    counts = {steps.whole: 1}
    for done in steps.backwards():
        counts[done] = sum([steps.ways(done, row, k) * counts[done | 1 << row] for row in steps.after(done)])
    return counts


def block_polynomial(steps):
    """The polynomial of the codes of a block."""
    told = polynomials_from(steps)[0]
    for at in range(len(steps.form[1])):
        told = poly_product(told, [-at, 1])
    return told


def polynomials_from(steps):
    """A dict from each done set to the polynomial of the codes from it on."""
    # k less the crowd is right where the crowd is above k, too: crowds rise by
    # one at the most, so that on each way from the empty set, where no more values
    # live than there are takes, some factor ahead is 0 then.
    found = {steps.whole: [1]}
    for done in steps.backwards():
        parts = [step_polynomial(steps, done, row, found[done | 1 << row]) for row in steps.after(done)]
        # All parts have one length: each way on makes the same values.
        found[done] = [sum(column) for column in zip(*parts)]
    return found


def step_polynomial(steps, done, row, rest):
    """The polynomial of the codes from a set on that go on with a row; rest is that from there on."""
    turns = steps.turns[row]
    if not steps.makes[row]:
        return [turns * number for number in rest]
    crowd = steps.crowd(done, row)
    return [turns * (lower - crowd * upper) for lower, upper in zip([0] + rest, rest + [0])]


def poly_product(one, other):
    """The product of two polynomials."""
    told = [0] * (len(one) + len(other) - 1)
    for at in range(len(one)):
        for by in range(len(other)):
            told[at + by] = told[at + by] + one[at] * other[by]
    return told


def block_least(steps):
    """The least count of registers for which a block has a code."""
    enough = {steps.whole: 0}
    for done in steps.backwards():
        enough[done] = min([enough_for(steps, done, row, enough[done | 1 << row]) for row in steps.after(done)])
    return max(len(steps.form[1]), enough[0])


def enough_for(steps, done, row, rest):
    """The registers that are enough to go on with a row; rest is how many are from there on."""
    if not steps.makes[row]:
        return rest
    return max(rest, steps.crowd(done, row) + 1)
