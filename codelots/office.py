"""An office that keeps texts, hands out their codes, and finds them again."""

from codelots.books import Book
from codelots.errors import Full, NoBlock, NoCode, NoHolder, NoName, NoNumber, NoText, Standing
from codelots.kept import Kept, fits, for_registers, least_lots, with_hand, with_text
from codelots.plain import plain
from codelots.reading import read
from codelots.texts import has_block_shape, is_below, is_name, is_text

MOST_TEXTS = 6
MOST_HOLDERS = 8
MOST_REGISTERS = 12


class Office:
    """Texts by names, with holders of their codes, for a machine of k registers."""

    def __init__(self, k):
        self._k = k
        self._kept = {}
        # Of each deed its word, and the registers and what was kept ahead of it.
        self._past = []

    def __len__(self):
        return len(self._kept)

    def put(self, name, text):
        """Keep a text under a new name (NoName, Standing, Full)."""
        if not is_name(name):
            raise NoName(name)
        if name in self._kept:
            raise Standing(name)
        forms = plain(text)
        self._refuse_standing(forms, None)
        if len(self._kept) >= MOST_TEXTS:
            raise Full(MOST_TEXTS)
        self._do("put", self._kept_with(name, Kept(Book(forms, self._k), {})))

    def machine(self, k):
        """Have another count of registers; all holders' codes stand (NoNumber, NoCode)."""
        if not is_below(k, MOST_REGISTERS + 1):
            raise NoNumber(MOST_REGISTERS)
        if not all([fits(self._kept[name], k) for name in self._kept]):
            raise NoCode("a holder's code has a register that isn't below the count")
        self._do("machine", {name: for_registers(self._kept[name], k) for name in self._kept})
        self._k = k

    def strike(self, name):
        """Keep a text no longer (NoName)."""
        self._found(name)
        self._do("strike", {other: self._kept[other] for other in self._kept if other != name})

    def issue(self, name, holder, number):
        """Hand the code with a number to a new holder of a text (NoName, NoHolder, Full, NoNumber)."""
        kept = self._found(name)
        if not is_name(holder) or holder in kept.hands:
            raise NoHolder(holder)
        if len(kept.hands) >= MOST_HOLDERS:
            raise Full(MOST_HOLDERS)
        if not is_below(number, kept.book.count):
            raise NoNumber(kept.book.count)
        code = kept.book.code_at(number)
        self._do("issue", self._kept_with(name, with_hand(kept, holder, code)))
        return code

    def edit(self, name, block):
        """Refit one block."""
        return self.refit(name, (block,))

    def refit(self, name, blocks):
        """Put blocks for those of the same names; told are the holders who were handed new ones.

        Refused with NoName, NoBlock, NoCode, Standing.
        """
        kept = self._found(name)
        forms = kept.book.forms
        places = places_of(blocks, forms)
        if places is None:
            raise NoBlock("no blocks of unlike names that the text has")
        text = with_blocks(forms, blocks, places)
        if not is_text(text):
            raise NoBlock("the blocks make no text in their places")
        book = Book(plain(text), self._k)
        if len(kept.hands) > 0 and book.count == 0:
            raise NoCode("the text would have no code")
        self._refuse_standing(book.forms, name)
        self._do("edit", self._kept_with(name, with_text(kept, book, places)))
        if book.forms == forms:
            return []
        return sorted(kept.hands)

    def undo(self):
        """Go back by one deed, and tell its word, None where there is none."""
        if len(self._past) == 0:
            return None
        word, self._k, self._kept = self._past.pop()
        return word

    def names(self):
        """The names of the texts, rising."""
        return sorted(self._kept)

    def holders(self, name):
        """The holders of a text, rising (NoName)."""
        return sorted(self._found(name).hands)

    def registers(self):
        """The count of registers."""
        return self._k

    def text(self, name):
        """The plain form of a text (NoName)."""
        return self._found(name).book.forms

    def number(self, name, holder):
        """The number of a holder's code (NoName, NoHolder)."""
        kept = self._found(name)
        if not is_name(holder) or holder not in kept.hands:
            raise NoHolder(holder)
        return kept.book.number_of_code(kept.hands[holder].code)

    def found(self, code):
        """The name of the text that a code reads to (Empty, Twin, NoText)."""
        name = self._name_of(read(code))
        if name is None:
            raise NoText("the code reads to no text that stands")
        return name

    def lots(self, name, code):
        """The least lots of holders that can have mixed a code, by length, then as lists (NoName)."""
        return least_lots(self._found(name), code)

    def sure(self, name, code):
        """The holders who are in each least lot, rising (NoName)."""
        told = least_lots(self._found(name), code)
        if len(told) == 0:
            return []
        return [holder for holder in told[0] if all([holder in lot for lot in told])]

    def _found(self, name):
        """What is kept under a name (NoName)."""
        if not is_name(name) or name not in self._kept:
            raise NoName(name)
        return self._kept[name]

    def _name_of(self, forms):
        """The name of the text with a plain form, or None."""
        for name in self._kept:
            if self._kept[name].book.forms == forms:
                return name
        return None

    def _refuse_standing(self, forms, name):
        """Refuse a plain form that another text than the one of a name has (Standing)."""
        other = self._name_of(forms)
        if other is not None and other != name:
            raise Standing(other)

    def _kept_with(self, name, kept):
        """All that is kept, with this under a name."""
        told = {other: self._kept[other] for other in self._kept}
        told[name] = kept
        return told

    def _do(self, word, kept):
        """Do a deed: from now on this is kept."""
        self._past.append((word, self._k, self._kept))
        self._kept = kept


def places_of(blocks, forms):
    """The places in a text of what is a tuple of blocks of unlike names that it has, else None."""
    if not isinstance(blocks, tuple) or not all([has_block_shape(block) for block in blocks]):
        return None
    names = [form[0] for form in forms]
    told = [names.index(block[0]) for block in blocks if block[0] in names]
    if len(told) < len(blocks) or len(set(told)) < len(told):
        return None
    return told


def with_blocks(forms, blocks, places):
    """A text with other blocks at some places."""
    told = list(forms)
    for block, place in zip(blocks, places):
        told[place] = block
    return tuple(told)
