import copy
import itertools
import random
import unittest

from codelots.codes import is_code
from codelots.counts import many
from codelots.errors import (
    Empty, Full, LotError, NoBlock, NoCode, NoHolder, NoName, NoNumber, NoText, Standing, Twin,
)
from codelots.numbers import code_of, number_of
from codelots.office import Office
from codelots.plain import plain
from codelots.reading import read
from tests.model import Model, Refused
from tests.samples import (
    CODE, FULL, THINGS, code, code_block, disguised, number_of_values, one_block, random_code, random_text,
)

FIELDS = {
    "NoName": ("name",), "Standing": ("name",), "Full": ("most",), "NoNumber": ("count",), "NoHolder": ("holder",),
    "NoCode": (), "NoBlock": (), "NoText": (), "Empty": ("block", "row"), "Twin": ("block", "row"),
}
NOTHING = one_block([], ())
TAKES = one_block([])
# Two blocks with 24 and 18 codes for three registers.
PAIR = (
    ("p", (), (("num", "n", 1), ("out", "n"), ("num", "m", 2)), ("go", "q", ())),
    ("q", (), (("num", "n", 1), ("num", "m", 2)), ("stop", ())),
)


def sample(number):
    """One of many texts, each another one."""
    return one_block([("num", "n", number)], ())


def outcome(asked, *args):
    """What asking comes to: the answer, or the refusal's class and fields."""
    try:
        return ("told", asked(*args))
    except LotError as error:
        name = type(error).__name__
        return (name,) + tuple(getattr(error, field) for field in FIELDS[name])
    except Refused as error:
        return error.args


def state(office):
    """All that can be asked of an office without a code."""
    return (len(office), office.registers(), [
        (name, office.text(name), [(holder, office.number(name, holder)) for holder in office.holders(name)])
        for name in office.names()
    ])


class Asked(unittest.TestCase):
    def refused(self, expected, asked, *args):
        """The refusal, that it is a LotError, and that it changes neither the office nor what is handed in."""
        office = asked.__self__
        before = state(office)
        told = outcome(asked, *args)
        self.assertEqual(told, expected)
        self.assertEqual([type(part) for part in told], [type(part) for part in expected])
        self.assertEqual(state(office), before)


class Put(Asked):
    def test_a_new_office(self):
        for k in (0, 3, 12):
            office = Office(k)
            self.assertEqual(state(office), (0, k, []))
            self.assertIsNone(office.undo())
            self.assertEqual(office.names(), [])

    def test_texts_are_kept_in_their_plain_form(self):
        office = Office(4)
        self.assertIsNone(office.put("full", FULL))
        self.assertIsNone(office.put("a", TAKES))
        self.assertEqual(office.names(), ["a", "full"])
        self.assertEqual(len(office), 2)
        self.assertEqual(office.text("full"), plain(FULL))
        self.assertEqual(office.text("a"), one_block([], ("a", "b")))
        self.assertEqual(office.holders("full"), [])

    def test_a_text_without_a_code(self):
        office = Office(0)
        office.put("full", FULL)
        self.assertEqual(office.text("full"), plain(FULL))
        self.refused(("NoNumber", 0), office.issue, "full", "ann", 0)

    def test_things_that_are_no_names(self):
        office = Office(4)
        for thing in THINGS + ["Ann", "a b", "abcdefghi", "", "a1", ("ann",), ["ann"], {"ann": 1}]:
            if not (isinstance(thing, str) and thing in ("a", "b", "main")):
                self.refused(("NoName", thing), office.put, thing, FULL)
        self.assertEqual(len(office), 0)
        self.assertIsNone(office.undo())

    def test_standing_names_and_texts(self):
        office = Office(4)
        office.put("full", FULL)
        office.put("takes", TAKES)
        self.refused(("Standing", "full"), office.put, "full", NOTHING)
        self.refused(("Standing", "full"), office.put, "full", FULL)
        self.refused(("Standing", "full"), office.put, "other", FULL)
        chance = random.Random(111)
        for _ in range(10):
            self.refused(("Standing", "full"), office.put, "other", disguised(chance, FULL))
        # The name stands, and the text under another one: the name is told.
        self.refused(("Standing", "takes"), office.put, "takes", FULL)
        self.refused(("Standing", "takes"), office.put, "new", one_block([], ("p", "q")))

    def test_a_seventh_text(self):
        office = Office(4)
        for at, name in enumerate("abcdef"):
            office.put(name, sample(at))
        self.refused(("Full", 6), office.put, "g", sample(7))
        self.refused(("NoName", "G"), office.put, "G", sample(7))
        self.refused(("Standing", "c"), office.put, "c", sample(7))
        self.refused(("Standing", "b"), office.put, "g", sample(1))
        office.strike("c")
        office.put("g", sample(2))
        self.refused(("Full", 6), office.put, "c", sample(7))


class Issue(Asked):
    def office(self):
        office = Office(4)
        office.put("full", FULL)
        office.put("pair", PAIR)
        return office

    def test_the_code_of_a_number(self):
        office = self.office()
        count = many(FULL, 4)
        for holder, number in (("ann", 0), ("bob", count - 1), ("cid", 12345), ("dan", 12345)):
            told = office.issue("full", holder, number)
            self.assertEqual(told, code_of(FULL, 4, number))
            self.assertEqual(office.number("full", holder), number)
        self.assertEqual(office.holders("full"), ["ann", "bob", "cid", "dan"])
        self.assertEqual(office.holders("pair"), [])
        # One may hold of several texts.
        office.issue("pair", "bob", 1)
        self.assertEqual((office.number("full", "bob"), office.number("pair", "bob")), (count - 1, 1))

    def test_refused(self):
        office = self.office()
        count = many(FULL, 4)
        office.issue("full", "ann", 0)
        for thing in THINGS + ["none", "fulls"]:
            self.refused(("NoName", thing), office.issue, thing, "bob", 0)
            self.refused(("NoName", thing), office.issue, thing, thing, thing)
        for thing in THINGS:
            if not (isinstance(thing, str) and thing in ("a", "b", "main")):
                self.refused(("NoHolder", thing), office.issue, "full", thing, 0)
                self.refused(("NoHolder", thing), office.issue, "full", thing, count)
            if type(thing) is not int or not 0 <= thing < count:
                self.refused(("NoNumber", count), office.issue, "full", "bob", thing)
        self.refused(("NoHolder", "ann"), office.issue, "full", "ann", 1)
        self.refused(("NoHolder", "ann"), office.issue, "full", "ann", count)
        for number in (count, count + 1, -1, -count):
            self.refused(("NoNumber", count), office.issue, "full", "bob", number)
        office.issue("full", "bob", count - 1)

    def test_a_ninth_holder(self):
        office = self.office()
        count = many(PAIR, 4)
        for at, holder in enumerate("hgfedcba"):
            office.issue("pair", holder, at)
        self.refused(("Full", 8), office.issue, "pair", "i", 0)
        self.refused(("Full", 8), office.issue, "pair", "i", count)
        self.refused(("NoHolder", "a"), office.issue, "pair", "a", 0)
        self.refused(("NoHolder", "I"), office.issue, "pair", "I", 0)
        self.refused(("NoName", "pairs"), office.issue, "pairs", "I", count)
        self.assertEqual(office.holders("pair"), list("abcdefgh"))
        self.assertEqual(office.undo(), "issue")
        office.issue("pair", "i", 0)
        self.assertEqual(office.holders("pair"), list("bcdefghi"))


class Machine(Asked):
    def office(self):
        office = Office(4)
        office.put("takes", TAKES)
        # The map (0, 2) has number 1 of twelve.
        office.issue("takes", "ann", 1)
        return office

    def test_up_and_down(self):
        office = self.office()
        self.assertEqual(office.registers(), 4)
        for k, number in ((12, 1), (3, 1), (5, 1), (3, 1)):
            self.assertIsNone(office.machine(k))
            self.assertEqual(office.registers(), k)
            self.assertEqual(office.number("takes", "ann"), number)
        office.issue("takes", "bob", 5)
        # (2, 1) is number 5 of six, and 7 of the twelve for four registers: 0x, 1x, then 20, 21.
        office.machine(4)
        self.assertEqual((office.number("takes", "ann"), office.number("takes", "bob")), (1, 7))
        self.assertEqual(office.found((("b", (2, 1), (), ("stop", ())),)), "takes")

    def test_the_code_stands_row_for_row(self):
        office = Office(4)
        office.put("full", FULL)
        told = office.issue("full", "ann", 1234567)
        for k in (5, 9, 12, 4):
            office.machine(k)
            self.assertEqual(code_of(FULL, k, office.number("full", "ann")), told)
            self.assertEqual(number_of(told, k)[1], office.number("full", "ann"))
            self.assertEqual(office.lots("full", told), [["ann"]])

    def test_below_a_register_in_use(self):
        office = self.office()
        for k in (0, 1, 2):
            self.refused(("NoCode",), office.machine, k)
        office.machine(3)
        self.refused(("NoCode",), office.machine, 2)
        # A holder of another text counts, too.
        office.put("nothing", NOTHING)
        office.put("one", sample(1))
        office.issue("nothing", "ann", 0)
        self.assertEqual(office.undo(), "issue")
        self.refused(("NoCode",), office.machine, 2)
        office.strike("takes")
        office.issue("nothing", "ann", 0)
        office.issue("one", "bob", 1)
        self.refused(("NoCode",), office.machine, 1)
        office.undo()
        office.machine(0)
        self.assertEqual(office.number("nothing", "ann"), 0)
        self.refused(("NoNumber", 0), office.issue, "one", "bob", 0)

    def test_each_place_of_a_register(self):
        # Only the num's register is above 1, and nothing takes it.
        office = Office(3)
        text = one_block([("num", "n", 1)], ("x",))
        office.put("text", text)
        number = [at for at in range(many(text, 3)) if code_of(text, 3, at) == (("b", (0,), (("num", 2, 1),), ("stop", ())),)]
        office.issue("text", "ann", number[0])
        self.refused(("NoCode",), office.machine, 2)
        office.machine(3)

    def test_a_map_alone_and_an_elder_block(self):
        office = self.office()
        office.edit("takes", ("b", ("x",), (), ("stop", ())))
        # The map (0, 2), number 1, is handed still, but the code is the map (1) now.
        self.assertEqual(office.number("takes", "ann"), 1)
        self.assertIsNone(office.machine(2))
        self.assertEqual(office.number("takes", "ann"), 1)
        self.assertEqual(office.lots("takes", (("b", (0, 2), (), ("stop", ())),)), [["ann"]])
        self.refused(("NoCode",), office.machine, 1)

    def test_no_whole_number_from_0_to_12(self):
        office = self.office()
        for thing in THINGS + [-1, 13, 14, True, False, None, "4", (4,), [4]]:
            if type(thing) is not int or not 0 <= thing <= 12:
                self.refused(("NoNumber", 12), office.machine, thing)
        self.assertEqual(office.registers(), 4)
        office.machine(12)
        office.strike("takes")
        office.machine(0)
        self.assertEqual(office.registers(), 0)

    def test_the_same_count_is_a_deed(self):
        office = self.office()
        office.machine(4)
        self.assertEqual([office.undo() for _ in range(4)], ["machine", "issue", "put", None])


class Strike(Asked):
    def test_a_text_is_gone_with_its_holders(self):
        office = Office(4)
        office.put("full", FULL)
        office.put("takes", TAKES)
        told = office.issue("full", "ann", 5)
        self.assertIsNone(office.strike("full"))
        self.assertEqual((office.names(), len(office)), (["takes"], 1))
        for asked, args in (
            (office.text, ()), (office.holders, ()), (office.number, ("ann",)), (office.strike, ()), (office.lots, (told,)),
            (office.sure, (told,)), (office.issue, ("ann", 0)), (office.refit, ((),)), (office.edit, (FULL[0],)),
        ):
            self.refused(("NoName", "full"), asked, "full", *args)
        self.refused(("NoText",), office.found, told)
        office.put("full", FULL)
        self.assertEqual(office.holders("full"), [])
        self.assertEqual(office.lots("full", told), [])

    def test_no_name(self):
        office = Office(4)
        office.put("full", FULL)
        for thing in THINGS:
            self.refused(("NoName", thing), office.strike, thing)


class Refit(Asked):
    def office(self):
        office = Office(3)
        office.put("pair", PAIR)
        return office

    def counts(self, text, k):
        return [many((block[:3] + (("stop", ()),),), k) for block in text]

    def numbers(self, office, name, holder):
        """A holder's numbers in the blocks."""
        number = office.number(name, holder)
        told = []
        for count in reversed(self.counts(office.text(name), office.registers())):
            number, at = divmod(number, count)
            told.insert(0, at)
        return told

    def test_one_block(self):
        office = self.office()
        first, second = self.counts(PAIR, 3)
        self.assertEqual((first, second), (24, 18))
        office.issue("pair", "bob", 11 * second + 16)
        office.issue("pair", "ann", 0)
        new = ("q", (), (("num", "n", 5),), ("stop", ()))
        self.assertEqual(self.numbers(office, "pair", "bob"), [11, 16])
        self.assertEqual(office.edit("pair", new), ["ann", "bob"])
        self.assertEqual(office.text("pair"), plain((PAIR[0], new)))
        # The new block has three codes.
        self.assertEqual(self.numbers(office, "pair", "bob"), [11, 16 % 3])
        self.assertEqual(self.numbers(office, "pair", "ann"), [0, 0])
        self.assertEqual(office.number("pair", "bob"), 11 * 3 + 1)

    def test_the_first_block(self):
        office = self.office()
        second = self.counts(PAIR, 3)[1]
        office.issue("pair", "bob", 11 * second + 16)
        new = ("p", (), (("num", "n", 5), ("out", "n"), ("out", "n")), ("go", "q", ()))
        self.assertEqual(office.refit("pair", (new,)), ["bob"])
        self.assertEqual(self.numbers(office, "pair", "bob"), [11 % 3, 16])

    def test_all_at_once(self):
        # Each block alone would make no text: the first goes with a value, the second takes it.
        office = self.office()
        second = self.counts(PAIR, 3)[1]
        office.issue("pair", "bob", 11 * second + 16)
        new = (
            ("p", (), (("num", "n", 5),), ("go", "q", ("n",))),
            ("q", ("x",), (("out", "x"),), ("stop", ("x",))),
        )
        for block in new:
            self.refused(("NoBlock",), office.edit, "pair", block)
        for blocks in (new, new[::-1]):
            self.assertEqual(office.refit("pair", blocks), ["bob"])
            self.assertEqual(office.text("pair"), plain(new))
            self.assertEqual(office.number("pair", "bob"), 11 % 3 * 3 + 16 % 3)
            self.assertEqual(office.undo(), "edit")
            self.assertEqual(self.numbers(office, "pair", "bob"), [11, 16])

    def test_no_blocks(self):
        office = self.office()
        office.issue("pair", "ann", 7)
        before = state(office)
        told = office.refit("pair", ())
        self.assertEqual(told, [])
        self.assertIs(type(told), list)
        self.assertEqual(state(office), before)
        self.assertEqual([office.undo() for _ in range(4)], ["edit", "issue", "put", None])

    def test_a_block_of_the_same_plain_form(self):
        office = self.office()
        chance = random.Random(112)
        told = office.issue("pair", "ann", 77)
        before = state(office)
        self.assertEqual(office.edit("pair", disguised(chance, PAIR)[1]), [])
        self.assertEqual(office.refit("pair", disguised(chance, PAIR)), [])
        self.assertEqual(state(office), before)
        self.assertEqual(office.lots("pair", told), [["ann"]])
        self.assertEqual([office.undo(), office.undo(), office.undo()], ["edit", "edit", "issue"])

    def test_a_changed_block_beside_one_of_the_same_plain_form(self):
        office = self.office()
        first, second = self.counts(PAIR, 3)
        told = office.issue("pair", "ann", 5 * second + 9)
        new = ("q", (), (("num", "n", 5),), ("stop", ()))
        self.assertEqual(office.refit("pair", (PAIR[0], new)), ["ann"])
        self.assertEqual(self.numbers(office, "pair", "ann"), [5, 0])
        later = code_of((PAIR[0], new), 3, office.number("pair", "ann"))
        self.assertEqual(later[0], told[0])
        self.assertEqual(office.lots("pair", later), [["ann"]])
        self.assertEqual(office.lots("pair", told), [["ann"]])

    def test_a_finish_alone(self):
        office = self.office()
        told = office.issue("pair", "ann", 7)
        new = PAIR[0][:3] + (("stop", ()),)
        self.assertEqual(office.edit("pair", new), ["ann"])
        self.assertEqual(office.number("pair", "ann"), 7)
        later = (told[0][:3] + (("stop", ()),), told[1])
        self.assertEqual(office.lots("pair", later), [["ann"]])
        self.assertEqual(office.found(later), "pair")

    def test_without_holders(self):
        office = self.office()
        new = ("q", (), (("num", "n", 5),), ("stop", ()))
        self.assertEqual(office.edit("pair", new), [])
        self.assertEqual(office.text("pair"), plain((PAIR[0], new)))
        office.issue("pair", "ann", 0)
        self.assertEqual(office.lots("pair", code_of(PAIR, 3, 0)), [])

    def test_no_name(self):
        office = self.office()
        for thing in THINGS:
            self.refused(("NoName", thing), office.refit, thing, ())
            self.refused(("NoName", thing), office.refit, thing, thing)
            self.refused(("NoName", thing), office.edit, thing, PAIR[0])

    def test_no_blocks_of_the_text(self):
        office = self.office()
        office.issue("pair", "ann", 0)
        for thing in THINGS:
            if thing != ():
                self.refused(("NoBlock",), office.refit, "pair", thing)
                self.refused(("NoBlock",), office.refit, "pair", (("p", (), thing, ("stop", ())),))
            self.refused(("NoBlock",), office.refit, "pair", (thing,))
            self.refused(("NoBlock",), office.refit, "pair", (PAIR[0], thing))
            self.refused(("NoBlock",), office.refit, "pair", (("p",) + PAIR[0][1:3] + (thing,),))
            self.refused(("NoBlock",), office.refit, "pair", ((thing,) + PAIR[0][1:],))
            self.refused(("NoBlock",), office.edit, "pair", thing)
        for blocks in (
            list(PAIR), PAIR[0], {"p": PAIR[0]}, [PAIR[0]], (list(PAIR[0]),), (PAIR[0], PAIR[0]), PAIR + (PAIR[0],),
            (("r",) + PAIR[0][1:],), (PAIR[0], ("r",) + PAIR[1][1:]), (PAIR[0] + ((),),), (PAIR[0][:3],),
        ):
            self.refused(("NoBlock",), office.refit, "pair", blocks)
        self.refused(("NoBlock",), office.edit, "pair", (PAIR[0],))

    def test_blocks_that_make_no_text(self):
        office = self.office()
        for block in (
            ("p", ("x",), PAIR[0][2], ("go", "q", ("x",))), ("q", ("x",), (), ("stop", ())),
            ("p", (), (("num", "n", 1), ("num", "m", 1)), ("go", "q", ())), ("p", (), (("out", "n"),), ("stop", ())),
            ("p", (), (), ("go", "r", ())), ("p", (), (("num", "n", 1000003),), ("stop", ())),
            ("p", (), (("num", 0, 1),), ("stop", ())), ("p", ("x", "x"), (), ("stop", ())),
            ("p", (), tuple([("num", "n" + sign, at) for at, sign in enumerate("abcdefghijklmno")]), ("stop", ())),
        ):
            self.refused(("NoBlock",), office.edit, "pair", block)
            self.refused(("NoBlock",), office.refit, "pair", (block,))

    def test_no_code(self):
        office = self.office()
        wide = ("q", (), (("num", "n", 1), ("num", "m", 2), ("num", "k", 3), ("num", "l", 4)), ("stop", ("n", "m", "k", "l")))
        # Without holders it may be so.
        self.assertEqual(office.edit("pair", wide), [])
        self.refused(("NoNumber", 0), office.issue, "pair", "ann", 0)
        office.undo()
        office.issue("pair", "ann", 0)
        self.refused(("NoCode",), office.edit, "pair", wide)
        # NoCode is told ahead of Standing.
        office.put("other", (PAIR[0], wide))
        self.refused(("NoCode",), office.edit, "pair", wide)
        office.machine(4)
        self.refused(("Standing", "other"), office.edit, "pair", wide)
        office.strike("other")
        self.assertEqual(office.edit("pair", wide), ["ann"])

    def test_standing(self):
        office = self.office()
        new = ("q", (), (("num", "n", 5),), ("stop", ()))
        office.put("other", (PAIR[0], new))
        self.refused(("Standing", "other"), office.edit, "pair", new)
        self.refused(("Standing", "other"), office.edit, "pair", ("q", (), (("num", "zz", 5),), ("stop", ())))
        self.refused(("Standing", "pair"), office.edit, "other", PAIR[1])
        office.issue("pair", "ann", 3)
        self.refused(("Standing", "other"), office.edit, "pair", new)
        # NoBlock is told ahead of both.
        self.refused(("NoBlock",), office.refit, "pair", (new, new))
        # Its own plain form stands in no way.
        self.assertEqual(office.edit("pair", PAIR[1]), [])


class Undo(Asked):
    def test_each_sort_of_deed(self):
        office = Office(4)
        new = ("q", (), (("num", "n", 5),), ("stop", ()))
        deeds = [
            ("put", lambda: office.put("pair", PAIR)),
            ("issue", lambda: office.issue("pair", "ann", 5)),
            ("machine", lambda: office.machine(6)),
            ("put", lambda: office.put("full", FULL)),
            ("edit", lambda: office.edit("pair", new)),
            ("issue", lambda: office.issue("pair", "bob", 1)),
            ("edit", lambda: office.refit("pair", PAIR)),
            ("strike", lambda: office.strike("pair")),
            ("edit", lambda: office.refit("full", ())),
            ("machine", lambda: office.machine(3)),
            ("put", lambda: office.put("pair", NOTHING)),
        ]
        states = []
        for _, deed in deeds:
            states.append(state(office))
            deed()
        for (word, _), before in zip(reversed(deeds), reversed(states)):
            told = office.undo()
            self.assertEqual(told, word)
            self.assertIs(type(told), str)
            self.assertEqual(state(office), before)
        for _ in range(3):
            self.assertIsNone(office.undo())
            self.assertEqual(state(office), (0, 4, []))

    def test_further_back_each_time_and_on_from_there(self):
        office = Office(4)
        for at, name in enumerate("abc"):
            office.put(name, sample(at))
        self.assertEqual([office.undo(), office.undo()], ["put", "put"])
        office.put("d", sample(9))
        self.assertEqual(office.names(), ["a", "d"])
        self.assertEqual([office.undo(), office.undo(), office.undo()], ["put", "put", None])

    def test_what_was_refused_is_no_deed(self):
        office = Office(4)
        office.put("pair", PAIR)
        office.issue("pair", "ann", 0)
        for asked, args in (
            (office.put, ("pair", FULL)), (office.issue, ("pair", "ann", 0)), (office.machine, (13,)), (office.machine, (0,)),
            (office.strike, ("none",)), (office.refit, ("pair", [])), (office.edit, ("pair", None)),
        ):
            with self.assertRaises(LotError):
                asked(*args)
        self.assertEqual([office.undo(), office.undo(), office.undo()], ["issue", "put", None])

    def test_it_goes_back_with_what_was_handed(self):
        office = Office(3)
        office.put("pair", PAIR)
        one = office.issue("pair", "ann", 0)
        other = office.issue("pair", "bob", many(PAIR, 3) - 1)
        mixed = (one[0], other[1])
        self.assertEqual(office.lots("pair", mixed), [["ann", "bob"]])
        office.undo()
        self.assertEqual(office.lots("pair", mixed), [])
        self.assertEqual(office.lots("pair", one), [["ann"]])
        new = ("q", (), (("num", "n", 5),), ("stop", ()))
        office.edit("pair", new)
        later = code_of((PAIR[0], new), 3, office.number("pair", "ann"))
        self.assertEqual(office.lots("pair", later), [["ann"]])
        self.assertEqual(office.undo(), "edit")
        self.assertEqual(office.lots("pair", later), [])
        self.assertEqual(office.lots("pair", one), [["ann"]])
        office.strike("pair")
        office.undo()
        self.assertEqual(office.lots("pair", one), [["ann"]])
        self.assertEqual(office.undo(), "issue")
        self.assertEqual(office.lots("pair", one), [])


class Questions(Asked):
    def office(self):
        office = Office(4)
        office.put("full", FULL)
        office.put("pair", PAIR)
        office.issue("full", "ann", 3)
        return office

    def test_of_anything(self):
        office = self.office()
        for thing in THINGS + ["ful", "fulls", "ann"]:
            for asked, args in ((office.text, ()), (office.holders, ()), (office.number, ("ann",)), (office.number, (thing,)),
                                (office.lots, (CODE,)), (office.sure, (CODE,))):
                self.refused(("NoName", thing), asked, thing, *args)
            self.refused(("NoHolder", thing), office.number, "pair", thing)
            if thing != "ann":
                self.refused(("NoHolder", thing), office.number, "full", thing)
        self.assertEqual(office.number("full", "ann"), 3)

    def test_found(self):
        office = self.office()
        self.assertEqual(office.found(CODE), "full")
        for k in (4, 7, 12):
            for number in (0, 9, many(PAIR, k) - 1):
                self.assertEqual(office.found(code_of(PAIR, k, number)), "pair")
        for thing in (code_of(TAKES, 12, 131), code_of(NOTHING, 0, 0), code_of((PAIR[1],), 12, 7)):
            self.refused(("NoText",), office.found, thing)
        self.refused(("Empty", 0, 1), office.found, code([("out", 0), ("out", 11)]))
        self.refused(("Empty", 0, 0), office.found, code([], (), ("stop", (0,))))
        self.refused(("Twin", 1, 1), office.found, (code_block(), code_block([("num", 0, 5), ("num", 1, 5)], name="c")))
        office.edit("pair", ("q", (), (("num", "n", 5),), ("stop", ())))
        self.refused(("NoText",), office.found, code_of(PAIR, 4, 9))

    def test_lists_are_new(self):
        office = self.office()
        thing = office.issue("full", "bob", 3)
        new = ("q", (), (("num", "n", 5),), ("stop", ()))
        office.issue("pair", "cid", 3)
        for asked, args in (
            (office.names, ()), (office.holders, ("full",)), (office.lots, ("full", thing)), (office.sure, ("full", thing)),
            (office.lots, ("full", CODE)), (office.sure, ("full", CODE)), (office.refit, ("pair", ())),
        ):
            before = copy.deepcopy(asked(*args))
            told = asked(*args)
            self.assertIs(type(told), list)
            for part in told:
                self.assertIn(type(part), (str, list))
                if type(part) is list:
                    part.append("zoe")
            told.append("zoe")
            self.assertEqual(asked(*args), before)
        told = office.edit("pair", new)
        self.assertEqual(told, ["cid"])
        told.clear()
        self.assertEqual(office.holders("pair"), ["cid"])

    def test_what_is_handed_in_stays(self):
        office = Office(4)
        text = copy.deepcopy(PAIR)
        blocks = (("q", (), (("num", "n", 5),), ("stop", ())),)
        office.put("pair", text)
        thing = office.issue("pair", "ann", 5)
        kept = copy.deepcopy(thing)
        office.refit("pair", blocks)
        office.lots("pair", thing)
        office.found(code_of((PAIR[0],) + blocks, 4, 1))
        self.assertEqual((text, blocks, thing), (PAIR, (("q", (), (("num", "n", 5),), ("stop", ())),), kept))
        wrong = [[1], {"a": [2]}]
        for asked in (office.strike, office.text, office.machine, lambda thing: office.refit("pair", thing),
                      lambda thing: office.put(thing, PAIR), lambda thing: office.issue("pair", thing, 0),
                      lambda thing: office.issue("pair", "bob", thing)):
            with self.assertRaises(LotError):
                asked(wrong)
            self.assertEqual(wrong, [[1], {"a": [2]}])

    def test_offices_do_not_meddle(self):
        one, other = Office(4), Office(4)
        one.put("full", FULL)
        one.issue("full", "ann", 1)
        self.assertEqual(state(other), (0, 4, []))
        other.put("full", FULL)
        self.assertEqual(other.holders("full"), [])


class Lots(Asked):
    # Three blocks of one num each: for four registers four codes each.
    text = tuple((name, (), (("num", "n", at),), ("stop", ())) for at, name in enumerate("pqr"))

    def thing(self, *places):
        return tuple((name, (), (("num", places[at], at),), ("stop", ())) for at, name in enumerate("pqr"))

    def office(self, **holders):
        office = Office(4)
        office.put("text", self.text)
        for holder, places in holders.items():
            office.issue("text", holder, (places[0] * 4 + places[1]) * 4 + places[2])
        return office

    def test_one_holder(self):
        office = self.office(ann=(0, 1, 2), bob=(3, 3, 3))
        self.assertEqual(office.lots("text", self.thing(0, 1, 2)), [["ann"]])
        self.assertEqual(office.sure("text", self.thing(0, 1, 2)), ["ann"])
        self.assertEqual(office.lots("text", self.thing(3, 3, 3)), [["bob"]])

    def test_nobody(self):
        office = self.office(ann=(0, 1, 2), bob=(3, 3, 3))
        self.assertEqual(office.lots("text", self.thing(0, 1, 1)), [])
        self.assertEqual(office.sure("text", self.thing(0, 1, 1)), [])
        office = self.office()
        self.assertEqual((office.lots("text", self.thing(0, 1, 1)), office.sure("text", self.thing(0, 1, 1))), ([], []))

    def test_two_who_mixed(self):
        office = self.office(bob=(3, 3, 3), ann=(0, 1, 2), cid=(2, 2, 2))
        self.assertEqual(office.lots("text", self.thing(0, 3, 2)), [["ann", "bob"]])
        self.assertEqual(office.sure("text", self.thing(0, 3, 2)), ["ann", "bob"])
        # The last block could be cid's as well as ann's, but she is needed anyhow.
        self.assertEqual(office.lots("text", self.thing(3, 3, 2)), [["ann", "bob"], ["bob", "cid"]])
        self.assertEqual(office.sure("text", self.thing(3, 3, 2)), ["bob"])

    def test_longer_lots_of_whom_none_can_be_left_out(self):
        office = self.office(ann=(0, 0, 3), bob=(1, 1, 0), cid=(0, 2, 2), dan=(3, 0, 2), eve=(0, 2, 0))
        self.assertEqual(office.lots("text", self.thing(0, 0, 0)), [
            ["ann", "bob"], ["ann", "eve"], ["dan", "eve"], ["bob", "cid", "dan"],
        ])
        self.assertEqual(office.sure("text", self.thing(0, 0, 0)), [])

    def test_sorted_by_length_then_as_lists(self):
        office = self.office(d=(0, 0, 1), c=(1, 1, 0), b=(0, 1, 1), a=(1, 0, 1), e=(0, 0, 0))
        self.assertEqual(office.lots("text", self.thing(0, 0, 0)), [["e"], ["c", "d"], ["a", "b", "c"]])

    def test_the_same_code_twice(self):
        office = self.office(ann=(0, 1, 2), bob=(0, 1, 2))
        self.assertEqual(office.lots("text", self.thing(0, 1, 2)), [["ann"], ["bob"]])
        self.assertEqual(office.sure("text", self.thing(0, 1, 2)), [])

    def test_a_block_at_another_place(self):
        text = (("p", (), (), ("stop", ())), ("q", (), (), ("stop", ())))
        office = Office(2)
        office.put("text", text)
        office.issue("text", "ann", 0)
        self.assertEqual(office.lots("text", text), [["ann"]])
        self.assertEqual(office.lots("text", text[::-1]), [])
        self.assertEqual(office.lots("text", (text[0], text[0])), [])

    def test_another_count_of_blocks(self):
        office = self.office(ann=(0, 1, 2))
        thing = self.thing(0, 1, 2)
        for other in (thing[:1], thing[:2], thing + thing[:1], thing + (("s", (), (), ("stop", ())),)):
            self.assertEqual(office.lots("text", other), [])
            self.assertEqual(office.sure("text", other), [])

    def test_elder_codes(self):
        office = self.office(ann=(0, 1, 2), bob=(3, 3, 3))
        self.assertEqual(office.edit("text", ("q", (), (("num", "n", 7),), ("stop", ()))), ["ann", "bob"])
        new = ("q", (), (("num", 1, 7),), ("stop", ()))
        elder = self.thing(0, 1, 2)
        self.assertEqual(office.lots("text", elder), [["ann"]])
        self.assertEqual(office.lots("text", (elder[0], new, elder[2])), [["ann"]])
        self.assertEqual(office.lots("text", (self.thing(3, 3, 3)[0], new, elder[2])), [["ann", "bob"]])
        self.assertEqual(office.lots("text", self.thing(0, 3, 2)), [["ann", "bob"]])

    def test_one_who_came_later_has_none_of_the_elder_ones(self):
        office = self.office(ann=(0, 1, 2))
        office.edit("text", ("q", (), (("num", "n", 7),), ("stop", ())))
        told = office.issue("text", "bob", 0)
        self.assertEqual(office.lots("text", (told[0], self.thing(0, 1, 2)[1], told[2])), [["ann", "bob"]])
        self.assertEqual(office.lots("text", (told[0], self.thing(0, 0, 2)[1], told[2])), [])

    def test_of_the_texts_holders_alone(self):
        office = self.office(ann=(0, 1, 2))
        office.put("other", self.text[:2] + (("r", (), (("num", "n", 9),), ("stop", ())),))
        office.issue("other", "bob", (3 * 4 + 3) * 4 + 1)
        self.assertEqual(office.lots("text", self.thing(3, 1, 2)), [])
        self.assertEqual(office.lots("other", self.thing(3, 3, 2)), [])

    def test_blocks_of_holders_codes_make_a_code_of_the_text(self):
        chance = random.Random(113)
        found = 0
        while found < 40:
            text = random_text(chance, chance.randint(2, 5), 6, 2)
            k = chance.randint(2, 8)
            count = many(text, k)
            if not count:
                continue
            found += 1
            office = Office(k)
            office.put("text", text)
            held = [office.issue("text", holder, chance.randrange(count)) for holder in "abcd"]
            mixed = tuple(chance.choice(held)[at] for at in range(len(text)))
            self.assertIs(is_code(mixed, k), True)
            self.assertEqual(read(mixed), plain(text))
            self.assertEqual(office.found(mixed), "text")
            self.assertTrue(office.lots("text", mixed))


class Together(unittest.TestCase):
    """Long rows of deeds and questions, against the model."""

    names = ["one", "two", "three", "four", "five", "six", "seven"]
    wrong = [None, True, 0, -1, 10 ** 299, "", "Ann", ["one"], ("one",), {"one": 1}]

    def pool(self, chance):
        """Texts of two blocks, small ones, among them some that come of others by a refit or are one with others."""
        told = []
        while len(told) < 9:
            text = random_text(chance, chance.randint(1, 3), 2, 1)
            if max(len(block[2]) for block in text) <= 2:
                told.append(text)
        return told

    def block_for(self, chance, text):
        """A block for one of the text's: of another finish, of other rows, or disguised."""
        block = chance.choice(text)
        what = chance.randrange(5)
        if what == 0:
            return block[:3] + (("stop", block[1]),)
        if what == 1:
            return (block[0], block[1], (("num", "new", chance.randint(0, 3)), ("out", "new")), ("stop", ()))
        if what == 2:
            return (block[0], block[1], block[2][:1], ("stop", ()))
        if what == 3:
            return (block[0], block[1], (("num", "na", 1), ("num", "nb", 2), ("num", "nc", 3)), ("stop", ("na", "nb", "nc")))
        return disguised(chance, (block,))[0]

    def deed(self, chance, office, pool, calm):
        """A deed: a method's name and arguments. In a calm office texts and holders stand longer."""
        name = chance.choice(self.names if chance.random() < 0.9 else self.wrong)
        word = chance.choice(["put", "put", "issue", "issue", "issue", "issue", "refit", "refit", "edit", "machine", "strike", "undo"])
        if calm and word in ("undo", "strike", "machine") and chance.random() < 0.9:
            word = chance.choice(("put", "issue"))
        if chance.random() < 0.8 and office.names() and word != "put":
            name = chance.choice(office.names()[:1 if calm else 6])
        if word == "put":
            text = chance.choice(pool)
            return (word, name, disguised(chance, text) if chance.random() < 0.3 else text)
        if word == "strike":
            return (word, name) if chance.random() < 0.3 else ("undo",)
        if word == "machine":
            return (word, chance.choice([0, 1, 2, 3, 3, 4, 4, 13, -1, True, None, "3"]))
        if word == "undo":
            return (word,)
        count = 1
        if name in office.names():
            count = many(office.text(name), office.registers())
        if word == "issue":
            holder = chance.choice("abcdefghi") if chance.random() < 0.95 else chance.choice(self.wrong)
            number = chance.choice([chance.randrange(count or 1), 0, count - 1, count])
            return (word, name, holder, number if chance.random() < 0.95 else chance.choice(self.wrong))
        text = office.text(name) if name in office.names() else chance.choice(pool)
        blocks = tuple(self.block_for(chance, text) for _ in range(chance.randint(0, 2)))
        if chance.random() < 0.3:
            blocks = chance.choice(pool)
        if word == "edit":
            return (word, name, blocks[0] if blocks else chance.choice(self.wrong))
        return (word, name, blocks if chance.random() < 0.95 else chance.choice(self.wrong))

    def compare(self, chance, office, model, codes):
        self.assertEqual(len(office), len(model.texts))
        for question in ("names", "registers"):
            self.assertEqual(outcome(getattr(office, question)), outcome(getattr(model, question)))
        for name in model.names() + [chance.choice(self.wrong + self.names)]:
            for question in ("text", "holders"):
                self.assertEqual(outcome(getattr(office, question), name), outcome(getattr(model, question), name))
            for holder in list("abcdefghi") + [chance.choice(self.wrong)]:
                self.assertEqual(outcome(office.number, name, holder), outcome(model.number, name, holder))
        for _ in range(4):
            if not codes:
                continue
            # Blocks of codes that were handed at one time or another, mixed.
            size = len(chance.choice(codes))
            mixed = tuple(chance.choice([told for told in codes if len(told) > at])[at] for at in range(size))
            name = chance.choice(model.names() or ["one"])
            for question in ("lots", "sure"):
                self.assertEqual(outcome(getattr(office, question), name, mixed), outcome(getattr(model, question), name, mixed))
            if is_code(mixed, 12):
                self.assertEqual(outcome(office.found, mixed), outcome(model.found, mixed))

    def test_long_rows_of_deeds(self):
        seen = {}
        for seed in range(30):
            chance = random.Random(seed)
            k = chance.randint(2, 4)
            office, model = Office(k), Model(k)
            pool = self.pool(chance)
            codes = []
            for _ in range(140):
                word, *args = self.deed(chance, office, pool, seed % 3 == 0)
                before = copy.deepcopy(args)
                told = outcome(getattr(office, word), *args)
                expected = outcome(getattr(model, word), *args)
                self.assertEqual(told, expected, (word, args))
                self.assertEqual(args, before)
                seen[word, told[0]] = seen.get((word, told[0]), 0) + 1
                if word == "issue" and told[0] == "told":
                    codes.append(told[1])
                if codes and chance.random() < 0.1 and model.names():
                    name = chance.choice(model.names())
                    codes.extend(held["code"] for held in model.texts[name]["holders"].values())
                self.compare(chance, office, model, codes)
            while model.past:
                self.assertEqual(office.undo(), model.undo())
                self.assertEqual(state(office), state_of(model))
            self.assertIsNone(office.undo())
        for word, answers in (
            ("put", ["told", "NoName", "Standing", "Full"]), ("strike", ["told"]), ("undo", ["told"]),
            ("machine", ["told", "NoNumber", "NoCode"]), ("edit", ["told", "NoName", "NoBlock", "NoCode", "Standing"]),
            ("issue", ["told", "NoName", "NoHolder", "Full", "NoNumber"]), ("refit", ["told", "NoName", "NoBlock", "NoCode", "Standing"]),
        ):
            for answer in answers:
                self.assertGreater(seen.get((word, answer), 0), 0, (word, answer, seen))


def state_of(model):
    """As state, of a model."""
    return (len(model.texts), model.registers(), [
        (name, model.text(name), [(holder, model.number(name, holder)) for holder in model.holders(name)])
        for name in model.names()
    ])


if __name__ == "__main__":
    unittest.main()
