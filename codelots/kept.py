"""What an office keeps under a name: a text, its codes in order, its holders.

None of these objects is changed once it is made, so that an office can go back
to those that it kept ahead of a deed.
"""

from codelots.books import Book
from codelots.codes import has_registers


class Kept:
    """A text, by the book of its codes, and a dict from its holders' names to hands."""

    def __init__(self, book, hands):
        self.book = book
        self.hands = hands


class Hand:
    """A holder's code, and all blocks that were handed, pairs of a place and a block."""

    def __init__(self, code, handed):
        self.code = code
        self.handed = handed


def with_hand(kept, holder, code):
    """The same with one more holder, who is handed a code."""
    hands = {name: kept.hands[name] for name in kept.hands}
    hands[holder] = Hand(code, tuple(list(enumerate(code))))
    return Kept(kept.book, hands)


def for_registers(kept, k):
    """The same for another count of registers: all holders' codes stand."""
    return Kept(Book(kept.book.forms, k), kept.hands)


def with_text(kept, book, places):
    """The same with a text that is another one at some places, where holders are handed new blocks."""
    if book.forms == kept.book.forms:
        return kept
    hands = {}
    for name in kept.hands:
        hands[name] = refitted_hand(kept.hands[name], kept.book, book, places)
    return Kept(book, hands)


def refitted_hand(hand, old, new, places):
    """What a holder has of a new book, whose pages at some places are other ones than those of the old one."""
    numbers = old.numbers_of_blocks(hand.code)
    blocks = list(hand.code)
    for place in places:
        page = new.pages[place]
        blocks[place] = page.block_at(numbers[place] % page.count)
    handed = tuple([(place, blocks[place]) for place in places])
    return Hand(tuple(blocks), hand.handed + handed)


def fits(kept, k):
    """Whether all registers of the holders' codes are below k."""
    return all([all([has_registers(block, k) for block in kept.hands[name].code]) for name in kept.hands])


def least_lots(kept, code):
    """The least lots of holders that can have mixed a code, by length, then as lists."""
    if len(code) != len(kept.book.forms):
        return []
    had = [holders_of(kept.hands, at, code[at]) for at in range(len(code))]
    found = [lot for lot in all_lots(sorted(kept.hands)) if is_least_lot(lot, had)]
    return sorted(found, key=lambda lot: (len(lot), lot))


def holders_of(hands, place, block):
    """The holders to whom a block was handed at a place."""
    return [holder for holder in hands if (place, block) in hands[holder].handed]


def all_lots(holders):
    """All lists of some of the holders, in their order."""
    found = [[]]
    for holder in holders:
        found = found + [lot + [holder] for lot in found]
    return found


def is_least_lot(lot, had):
    """Whether a lot can have mixed what is told by who had its blocks, and none of it can be left out."""
    if not can_mix(lot, had):
        return False
    return not any([can_mix([other for other in lot if other != holder], had) for holder in lot])


def can_mix(lot, had):
    """Whether one of a lot had each block; told is who had it."""
    return all([any([holder in lot for holder in holders]) for holders in had])
