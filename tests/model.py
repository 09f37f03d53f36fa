"""An office by the document's words, slow and plain: codes are found in lists of all of them."""

import copy
import itertools

from codelots.errors import Empty, Twin
from codelots.plain import plain
from codelots.reading import read
from codelots.texts import is_name, is_text
from tests.oracle import block_codes


class Refused(Exception):
    """A refusal: the name of its class and its fields."""


def registers_of(code):
    """All registers of a code."""
    found = set()
    for _, places, rows, finish in code:
        found.update(places)
        for row in rows:
            if row[0] in ("num", "read"):
                found.add(row[1])
            else:
                found.update(part for part in row[1:] if type(part) is int)
        for part in finish[1:]:
            found.update(part if type(part) is tuple else [part] if type(part) is int else [])
    return found


class Model:
    def __init__(self, k):
        self.k = k
        self.texts = {}
        self.past = []

    def keep(self, word):
        self.past.append((word, self.k, copy.deepcopy(self.texts)))

    def known(self, name):
        if type(name) is not str or name not in self.texts:
            raise Refused("NoName", name)
        return self.texts[name]

    def one_with(self, form, but=None):
        for name, kept in self.texts.items():
            if kept["form"] == form and name != but:
                raise Refused("Standing", name)

    def counts(self, form):
        return [len(block_codes(block, self.k)) for block in form]

    def count(self, form):
        total = 1
        for one in self.counts(form):
            total *= one
        return total

    def put(self, name, text):
        if not is_name(name):
            raise Refused("NoName", name)
        if name in self.texts:
            raise Refused("Standing", name)
        self.one_with(plain(text))
        if len(self.texts) == 6:
            raise Refused("Full", 6)
        self.keep("put")
        self.texts[name] = {"form": plain(text), "holders": {}}

    def machine(self, k):
        if type(k) is not int or not 0 <= k <= 12:
            raise Refused("NoNumber", 12)
        for kept in self.texts.values():
            for held in kept["holders"].values():
                if any(place >= k for place in registers_of(held["code"])):
                    raise Refused("NoCode")
        self.keep("machine")
        self.k = k

    def strike(self, name):
        self.known(name)
        self.keep("strike")
        del self.texts[name]

    def issue(self, name, holder, number):
        kept = self.known(name)
        if not is_name(holder) or holder in kept["holders"]:
            raise Refused("NoHolder", holder)
        if len(kept["holders"]) == 8:
            raise Refused("Full", 8)
        count = self.count(kept["form"])
        if type(number) is not int or not 0 <= number < count:
            raise Refused("NoNumber", count)
        self.keep("issue")
        code = next(itertools.islice(itertools.product(*[block_codes(form, self.k) for form in kept["form"]]), number, None))
        self.texts[name]["holders"][holder] = {"code": code, "handed": [[block] for block in code]}
        return code

    def edit(self, name, block):
        return self.refit(name, (block,))

    def refit(self, name, blocks):
        kept = self.known(name)
        form = kept["form"]
        names = [block[0] for block in form]
        if type(blocks) is not tuple:
            raise Refused("NoBlock")
        new = list(form)
        places = []
        for block in blocks:
            if type(block) is not tuple or len(block) != 4 or type(block[0]) is not str or block[0] not in names:
                raise Refused("NoBlock")
            if names.index(block[0]) in places:
                raise Refused("NoBlock")
            places.append(names.index(block[0]))
            new[places[-1]] = block
        if not is_text(tuple(new)):
            raise Refused("NoBlock")
        new = plain(tuple(new))
        if kept["holders"] and self.count(new) == 0:
            raise Refused("NoCode")
        self.one_with(new, name)
        self.keep("edit")
        kept = self.texts[name]
        kept["form"] = new
        if new == form:
            return []
        for held in kept["holders"].values():
            code = list(held["code"])
            for place in places:
                old = block_codes(form[place], self.k).index(code[place])
                told = block_codes(new[place], self.k)
                code[place] = told[old % len(told)]
                held["handed"][place].append(code[place])
            held["code"] = tuple(code)
        return sorted(kept["holders"])

    def undo(self):
        if not self.past:
            return None
        word, self.k, self.texts = self.past.pop()
        return word

    def names(self):
        return sorted(self.texts)

    def holders(self, name):
        return sorted(self.known(name)["holders"])

    def registers(self):
        return self.k

    def text(self, name):
        return self.known(name)["form"]

    def number(self, name, holder):
        kept = self.known(name)
        if type(holder) is not str or holder not in kept["holders"]:
            raise Refused("NoHolder", holder)
        number = 0
        for form, block in zip(kept["form"], kept["holders"][holder]["code"]):
            told = block_codes(form, self.k)
            number = number * len(told) + told.index(block)
        return number

    def found(self, code):
        try:
            form = read(code)
        except (Empty, Twin) as error:
            raise Refused(type(error).__name__, error.block, error.row)
        for name, kept in self.texts.items():
            if kept["form"] == form:
                return name
        raise Refused("NoText")

    def lots(self, name, code):
        kept = self.known(name)
        if len(code) != len(kept["form"]):
            return []
        told = []
        for size in range(9):
            for lot in itertools.combinations(sorted(kept["holders"]), size):
                mixed = all(
                    any(block in kept["holders"][holder]["handed"][at] for holder in lot) for at, block in enumerate(code)
                )
                if mixed and not any(set(less) < set(lot) for less in told):
                    told.append(list(lot))
        return told

    def sure(self, name, code):
        told = self.lots(name, code)
        return [holder for holder in self.holders(name) if told and all(holder in lot for lot in told)]
