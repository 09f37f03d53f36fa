import copy
import itertools
import random
import unittest

from codelots.errors import LotError, NoSet
from codelots.plain import plain
from codelots.sets import crowd, live, may_follow, sets
from tests.oracle import TINY, candidates, reads_to
from tests.samples import FULL, disguised, hung, living_in, number_of_values, one_block, random_text

CHAIN = one_block([("add", "p", "x", "y"), ("less", "q", "p", "x"), ("times", "r", "q", "q")], finish=("stop", ("r",)))
FREE = one_block([("num", "n", 3), ("add", "s", "x", "y"), ("read", "r", "c")], finish=("stop", ("n", "y")))
# In the plain form: num c, less d, read e, write c, out, in this order.
MIXED = one_block([
    ("out", "y"), ("read", "r", "c"), ("less", "d", "y", "r"), ("write", "c", "d"), ("num", "n", 3),
], finish=("stop", ("n", "n")))

OTHER_THINGS = [
    None, True, False, 0, 1, -1, 2, 10 ** 299, "", "a", "0", "01", [], [0], [0, 1], {}, {0: 1}, {0: 0, 1: 1}, ((),),
    ((0,),), ([],), (None,), ("0",), ("a",), ({},), (True,), (False,), (0, True), (False, 1), (0, None), (0, "1"),
    (0, (1,)), (0, [1]), (-1,), (-1, 0), (0, -1), (10 ** 299,), (0, 10 ** 299), (0, 0), (0, 1, 1), (1, 0), (0, 2, 1),
    (0,) * 19999, tuple(range(19999)), [0] * 19999, ("a" * 19000,), ((((((((((0,),),),),),),),),),),
]


def block_rows(text, block=0):
    return plain(text)[block][2]


def many_makers(count):
    return one_block([("num", "n" + "abcdefghijklmn"[k], k) for k in range(count)])


class Sets(unittest.TestCase):
    def test_no_rows(self):
        self.assertEqual(sets(one_block([]), 0), [()])
        self.assertEqual(sets(FULL, 1), [()])

    def test_one_chain(self):
        self.assertEqual(sets(CHAIN, 0), [(), (0,), (0, 1), (0, 1, 2)])
        outs = one_block([("out", "x")] * 14)
        self.assertEqual(sets(outs, 0), [tuple(range(count)) for count in range(15)])

    def test_rows_that_hang_on_nothing(self):
        told = [(), (0,), (1,), (2,), (0, 1), (0, 2), (1, 2), (0, 1, 2)]
        self.assertEqual(sets(FREE, 0), told)

    def test_all_sets_of_fourteen_rows(self):
        told = sets(many_makers(14), 0)
        self.assertEqual(len(told), 2 ** 14)
        self.assertEqual(told, [done for size in range(15) for done in itertools.combinations(range(14), size)])

    def test_cells_and_outs(self):
        self.assertEqual([row[0] for row in block_rows(MIXED)], ["num", "read", "less", "write", "out"])
        # The less hangs on the read, the write on both; the num and the out are free.
        chains = [(), (1,), (1, 2), (1, 2, 3)]
        free = [(), (0,), (4,), (0, 4)]
        expected = sorted([tuple(sorted(one + two)) for one in chains for two in free], key=lambda s: (len(s), s))
        self.assertEqual(sets(MIXED, 0), expected)

    def test_reads_of_one_cell_and_outs_in_order(self):
        text = one_block([("read", "r", "c"), ("write", "c", "x"), ("write", "c", "y"), ("out", "x"), ("out", "y")])
        told = [(), (0,), (3,), (0, 1), (0, 3), (3, 4), (0, 1, 2), (0, 1, 3), (0, 3, 4)]
        told += [(0, 1, 2, 3), (0, 1, 3, 4), (0, 1, 2, 3, 4)]
        self.assertEqual(sets(text, 0), told)

    def test_rows_are_those_of_the_plain_form(self):
        # As written the less is row 0 and hangs on nothing; in the plain form it is row 2.
        text = one_block([("less", "l", "x", "y"), ("num", "n", 5), ("add", "s", "n", "n")])
        told = [(), (0,), (2,), (0, 1), (0, 2), (0, 1, 2)]
        self.assertEqual(sets(text, 0), told)
        self.assertEqual(may_follow(text, 0, ()), [0, 2])
        self.assertEqual(may_follow(text, 0, (2,)), [0])
        self.assertEqual(may_follow(text, 0, (0,)), [1, 2])

    def test_each_block_by_its_number(self):
        text = (
            ("p", (), (), ("stop", ())),
            ("q", (), (("num", "n", 1), ("num", "m", 2)), ("stop", ())),
            ("r", (), (("num", "n", 1), ("out", "n")), ("stop", ())),
        )
        self.assertEqual(sets(text, 0), [()])
        self.assertEqual(sets(text, 1), [(), (0,), (1,), (0, 1)])
        self.assertEqual(sets(text, 2), [(), (0,), (0, 1)])
        self.assertEqual(may_follow(text, 1, (0,)), [1])
        self.assertEqual(may_follow(text, 2, ()), [0])
        self.assertEqual(live(text, 2, (0,)), ["a"])
        self.assertEqual(live(text, 1, (0,)), [])
        with self.assertRaises(NoSet):
            may_follow(text, 2, (1,))

    def test_lists_are_new(self):
        for told in (sets(FREE, 0), may_follow(FREE, 0, ()), live(FREE, 0, ())):
            self.assertIs(type(told), list)
            told.append((7,))
            told.clear()
        self.assertEqual(len(sets(FREE, 0)), 8)
        self.assertEqual(may_follow(FREE, 0, ()), [0, 1, 2])
        self.assertEqual(live(FREE, 0, ()), ["a", "b"])
        for told in sets(FREE, 0):
            self.assertIs(type(told), tuple)


class Following(unittest.TestCase):
    def test_no_rows(self):
        self.assertEqual(may_follow(one_block([]), 0, ()), [])

    def test_a_chain(self):
        self.assertEqual([may_follow(CHAIN, 0, tuple(range(count))) for count in range(4)], [[0], [1], [2], []])

    def test_free_rows(self):
        self.assertEqual(may_follow(FREE, 0, ()), [0, 1, 2])
        self.assertEqual(may_follow(FREE, 0, (1,)), [0, 2])
        self.assertEqual(may_follow(FREE, 0, (0, 1, 2)), [])

    def test_cells_and_outs(self):
        self.assertEqual(may_follow(MIXED, 0, ()), [0, 1, 4])
        self.assertEqual(may_follow(MIXED, 0, (1,)), [0, 2, 4])
        self.assertEqual(may_follow(MIXED, 0, (1, 2, 4)), [0, 3])
        self.assertEqual(may_follow(MIXED, 0, (0, 1, 2, 3)), [4])


class Living(unittest.TestCase):
    def test_no_rows(self):
        self.assertEqual(live(one_block([]), 0, ()), [])
        self.assertEqual(live(one_block([], finish=("stop", ("y",))), 0, ()), ["b"])
        self.assertEqual(live(FULL, 1, ()), ["a"])

    def test_every_place_of_a_finish(self):
        takes = ("x", "y", "z")
        for finish, told in (
            (("stop", ("z", "x", "z")), ["a", "c"]),
            (("go", "b", ("z", "z", "z")), ["c"]),
            (("when", "x", "b", ("y", "y", "y"), "b", ("y", "y", "y")), ["a", "b"]),
            (("when", "y", "b", ("z", "z", "z"), "b", ("y", "y", "y")), ["b", "c"]),
            (("when", "y", "b", ("y", "y", "y"), "b", ("y", "x", "y")), ["a", "b"]),
        ):
            self.assertEqual(live(one_block([], takes, finish), 0, ()), told)

    def test_along_a_chain(self):
        # c is a + b, d is c - a, e is d * d, which the finish takes.
        told = [live(CHAIN, 0, tuple(range(count))) for count in range(4)]
        self.assertEqual(told, [["a", "b"], ["a", "c"], ["d"], ["e"]])

    def test_values_in_the_finish_alone_of_a_row_alone_and_of_none(self):
        # The num's c is in the finish, as b is; nothing takes the add's d, nor the read's e.
        self.assertEqual(block_rows(FREE), (("num", "c", 3), ("add", "d", "a", "b"), ("read", "e", "c")))
        self.assertEqual(live(FREE, 0, ()), ["a", "b"])
        self.assertEqual(live(FREE, 0, (0,)), ["a", "b", "c"])
        self.assertEqual(live(FREE, 0, (1,)), ["b"])
        self.assertEqual(live(FREE, 0, (2,)), ["a", "b"])
        self.assertEqual(live(FREE, 0, (0, 1, 2)), ["b", "c"])

    def test_writes_and_outs_take_values(self):
        self.assertEqual(live(MIXED, 0, ()), ["b"])
        self.assertEqual(live(MIXED, 0, (4,)), ["b"])
        self.assertEqual(live(MIXED, 0, (1, 4)), ["b", "d"])
        self.assertEqual(live(MIXED, 0, (1, 2)), ["b", "e"])
        self.assertEqual(live(MIXED, 0, (1, 2, 4)), ["e"])
        self.assertEqual(live(MIXED, 0, (1, 2, 3)), ["b"])
        self.assertEqual(live(MIXED, 0, (0, 1, 2, 3, 4)), ["c"])

    def test_a_value_of_a_done_row_is_not_alive_for_it(self):
        text = one_block([("out", "x"), ("out", "x"), ("out", "y")])
        self.assertEqual([live(text, 0, tuple(range(count))) for count in range(4)], [["a", "b"]] * 2 + [["b"], []])

    def test_twenty_letters(self):
        takes = number_of_values(6)
        rows = [("num", "n" + "abcdefghijklmn"[k], k) for k in range(14)]
        finish = ("stop", ("nn", "na", "nf", "va", "vf", "ne"))
        text = one_block(rows, takes, finish)
        self.assertEqual(live(text, 0, tuple(range(14))), ["a", "f", "g", "k", "l", "t"])
        self.assertEqual(live(text, 0, (13,)), ["a", "f", "t"])


class Crowds(unittest.TestCase):
    def test_a_chain(self):
        self.assertEqual([crowd(CHAIN, 0, tuple(range(at)), at) for at in range(3)], [1, 0, 0])

    def test_the_rows_own_is_not_counted_whether_it_lives_or_not(self):
        self.assertEqual(crowd(FREE, 0, (), 0), 2)
        self.assertEqual(crowd(FREE, 0, (), 1), 1)
        self.assertEqual(crowd(FREE, 0, (), 2), 2)
        self.assertEqual(crowd(FREE, 0, (0,), 2), 3)
        self.assertEqual(crowd(FREE, 0, (0, 1), 2), 2)
        self.assertEqual(crowd(FREE, 0, (0, 2), 1), 2)
        self.assertEqual(crowd(FREE, 0, (1, 2), 0), 1)

    def test_a_row_with_a_number_below_the_sets(self):
        self.assertEqual(crowd(MIXED, 0, (1, 2, 3, 4), 0), 0)
        self.assertEqual(crowd(MIXED, 0, (1, 2), 0), 2)

    def test_no_values_about(self):
        self.assertEqual(crowd(one_block([("num", "n", 1)], ()), 0, (), 0), 0)
        self.assertEqual(crowd(many_makers(14), 0, tuple(range(13)), 13), 0)


class Refused(unittest.TestCase):
    def refused(self, text, block, thing):
        for asked in (lambda: may_follow(text, block, thing), lambda: live(text, block, thing),
                      lambda: crowd(text, block, thing, 0)):
            with self.assertRaises(LotError) as caught:
                asked()
            self.assertIs(type(caught.exception), NoSet, thing)

    def test_things_of_other_kinds(self):
        for thing in OTHER_THINGS:
            for text in (CHAIN, FREE, MIXED, many_makers(14)):
                if thing not in sets(text, 0) or any(type(part) is bool for part in thing):
                    self.refused(text, 0, thing)

    def test_lists_of_done_sets(self):
        for text in (CHAIN, FREE):
            for done in sets(text, 0):
                self.refused(text, 0, list(done))
                self.refused(text, 0, {at: True for at in done})

    def test_truths(self):
        for thing in ((False,), (False, True), (0, True), (False, 1), (True,), (0, 1, True)):
            self.refused(FREE, 0, thing)

    def test_numbers_that_are_no_rows(self):
        for thing in ((3,), (0, 1, 2, 3), (0, 3), (-1,), (-3, -2, -1), (10 ** 299,), (14,)):
            self.refused(FREE, 0, thing)
        for thing in ((0,), (1,), (-1,)):
            self.refused(one_block([]), 0, thing)
            self.refused(FULL, 1, thing)

    def test_rows_twice_or_not_rising(self):
        for thing in ((0, 0), (0, 1, 1), (1, 1), (1, 0), (2, 1), (0, 2, 1), (2, 0, 1), (0, 1, 2, 2)):
            self.refused(FREE, 0, thing)

    def test_sets_that_miss_a_row_hung_on(self):
        for thing in ((1,), (2,), (1, 2), (0, 2)):
            self.refused(CHAIN, 0, thing)
        # Ends, a read ahead of a write, an out ahead of an out.
        for thing in ((2,), (3,), (2, 3), (1, 3), (0, 3, 4)):
            self.refused(MIXED, 0, thing)
        text = one_block([("read", "r", "c"), ("write", "c", "x"), ("write", "c", "y"), ("out", "x"), ("out", "y")])
        for thing in ((1,), (0, 2), (1, 2), (4,), (0, 1, 4), (0, 1, 2, 4)):
            self.refused(text, 0, thing)

    def test_all_other_tuples_of_rows(self):
        for text in (CHAIN, FREE, MIXED):
            known = sets(text, 0)
            for size in range(4):
                for thing in itertools.product(range(-1, len(block_rows(text)) + 1), repeat=size):
                    if thing not in known:
                        self.refused(text, 0, thing)

    def test_what_is_no_done_set_goes_ahead_of_the_row(self):
        with self.assertRaises(NoSet):
            crowd(CHAIN, 0, (1,), 2)


class Together(unittest.TestCase):
    """Random texts, by the document's words."""

    def texts(self, seed, count):
        chance = random.Random(seed)
        for _ in range(count):
            yield chance, random_text(chance, chance.randint(1, 2), chance.randint(0, 9), 3)

    def test_sets_rows_and_values(self):
        for chance, text in self.texts(41, 80):
            for block, form in enumerate(plain(text)):
                rows = form[2]
                on = hung(rows)
                told = sets(text, block)
                expected = [
                    done for size in range(len(rows) + 1) for done in itertools.combinations(range(len(rows)), size)
                    if all(on[at] <= set(done) for at in done)
                ]
                self.assertEqual(told, expected)
                for done in chance.sample(told, min(20, len(told))):
                    after = [at for at in range(len(rows)) if at not in done and on[at] <= set(done)]
                    self.assertEqual(may_follow(text, block, done), after)
                    self.assertEqual(live(text, block, done), sorted(living_in(form, done)))
                    for at in after:
                        if rows[at][0] not in ("write", "out"):
                            behind = living_in(form, done + (at,)) - {rows[at][1]}
                            self.assertEqual(crowd(text, block, done, at), len(behind))

    def test_texts_that_are_one_tell_the_same(self):
        for chance, text in self.texts(42, 60):
            other = disguised(chance, text)
            for block in range(len(text)):
                told = sets(text, block)
                self.assertEqual(sets(other, block), told)
                for done in chance.sample(told, min(10, len(told))):
                    self.assertEqual(may_follow(other, block, done), may_follow(text, block, done))
                    self.assertEqual(live(other, block, done), live(text, block, done))

    def test_what_is_handed_in_stays(self):
        for chance, text in self.texts(43, 30):
            before = copy.deepcopy(text)
            done = sets(text, 0)[-1]
            may_follow(text, 0, done)
            live(text, 0, done)
            self.assertEqual(text, before)
        thing = [0, [1]]
        with self.assertRaises(NoSet):
            live(FREE, 0, thing)
        self.assertEqual(thing, [0, [1]])


class Places(unittest.TestCase):
    """A row may be put in just k less the crowd registers: all codes of small texts are tried."""

    def test_the_count_of_codes(self):
        above = 0
        for text in TINY:
            for k in range(4):
                expected = count_from(text, (), k)
                for less in range(len(text[0][1])):
                    expected *= k - less
                above += expected > 0
                # Two orders of rows may come to one code: each counts once.
                found = {thing for thing in candidates(text, k) if reads_to(thing, text)}
                self.assertEqual(len(found), expected)
        self.assertGreater(above, 12)


def count_from(text, done, k):
    """The count of codes from a done set on, as the crowds tell it."""
    rows = block_rows(text)
    if len(done) == len(rows):
        return 1
    total = 0
    for at in may_follow(text, 0, done):
        ways = 1
        if rows[at][0] not in ("write", "out"):
            ways = max(0, k - crowd(text, 0, done, at))
        if rows[at][0] in ("add", "times", "min") and rows[at][2] != rows[at][3]:
            ways *= 2
        total += ways * count_from(text, tuple(sorted(done + (at,))), k)
    return total


if __name__ == "__main__":
    unittest.main()
