import copy
import itertools
import random
import unittest

from codelots.bars import bar, is_bar
from codelots.counts import least, many
from codelots.plain import plain
from tests.oracle import done_sets, is_paper
from tests.samples import FULL, THINGS, disguised, number_of_values, one_block, random_text

# c is 3, d is a + b; the finish takes c and b. Two free rows, and crowds of 2 and 1, or 1 and 1.
FREE = one_block([("num", "n", 3), ("add", "s", "x", "y")], finish=("stop", ("n", "y")))
# All of three values live at the end.
CHAIN = one_block([("num", "n", 1), ("less", "p", "n", "n"), ("times", "q", "p", "p")], (), ("stop", ("n", "p", "q")))
ROWLESS = one_block([], ("x", "y", "z"))
NOTHING = one_block([], ())


class Bar(unittest.TestCase):
    def test_none_where_there_are_codes(self):
        self.assertIsNone(bar(NOTHING, 0))
        for text in (FREE, CHAIN, ROWLESS, FULL):
            for k in range(least(text), 15):
                self.assertIsNone(bar(text, k))

    def test_one_below_the_least(self):
        for text in (FREE, CHAIN, ROWLESS, FULL):
            for k in range(least(text)):
                told = bar(text, k)
                self.assertIs(type(told), tuple)
                self.assertIs(is_bar(text, k, told), True)

    def test_more_takes_than_registers(self):
        self.assertEqual([bar(ROWLESS, k) for k in range(4)], [(0, ())] * 3 + [None])
        self.assertEqual(bar((("p", (), (), ("stop", ())),) + ROWLESS, 2), (1, ()))

    def test_the_sets_that_codes_can_come_to(self):
        block, told = bar(CHAIN, 2)
        self.assertEqual(block, 0)
        self.assertEqual(sorted(told), [(), (0,), (0, 1)])
        block, told = bar(CHAIN, 1)
        self.assertEqual(sorted(told), [(), (0,)])

    def test_kinds_and_what_is_handed_in(self):
        for k in (0, 1, 2):
            for text in (FREE, CHAIN, ROWLESS, FULL):
                before = copy.deepcopy(text)
                told = bar(text, k)
                if told is not None:
                    is_bar(text, k, told)
                    self.assertEqual([type(part) for part in told], [int, tuple])
                    self.assertTrue(all(type(done) is tuple for done in told[1]))
                self.assertEqual(text, before)

    def test_a_large_one(self):
        rows = [("num", "n" + sign, at) for at, sign in enumerate("abcdefghijklmn")]
        finish = ("when", "na", "b", (), "b", ())
        text = one_block(rows, (), ("stop", ("na", "nb", "nc", "nd", "ne", "nf")))
        told = bar(text, 5)
        self.assertGreater(len(told[1]), 10000)
        self.assertIs(is_bar(text, 5, told), True)
        self.assertIs(is_bar(text, 6, told), False)
        self.assertIs(is_bar(text, 5, (0, told[1][:-1])), False)
        self.assertIsNone(bar(text, 6))
        self.assertIsNone(bar((text[0][:3] + (finish,),), 1))

    def test_random_texts(self):
        chance = random.Random(71)
        counts = {True: 0, False: 0}
        for _ in range(150):
            text = random_text(chance, chance.randint(1, 3), chance.randint(0, 9), 3)
            other = disguised(chance, text)
            for k in range(6):
                told = bar(text, k)
                counts[told is None] += 1
                self.assertEqual(told is None, many(text, k) > 0)
                if told is not None:
                    self.assertIs(is_bar(text, k, told), True)
                    self.assertIs(is_bar(other, k, told), True)
                    self.assertTrue(is_paper(text, k, *told))
        self.assertGreater(min(counts.values()), 100)


class Papers(unittest.TestCase):
    def test_takes_alone(self):
        for k in range(3):
            self.assertIs(is_bar(ROWLESS, k, (0, ())), True)
        for k in (3, 4, 12, 13):
            self.assertIs(is_bar(ROWLESS, k, (0, ())), False)
        for k in range(3):
            self.assertIs(is_bar(NOTHING, k, (0, ())), False)
        # The set of all rows is the empty one there.
        self.assertIs(is_bar(ROWLESS, 2, (0, ((),))), False)

    def test_no_sets_where_there_are_not_more_takes(self):
        self.assertIs(is_bar(CHAIN, 2, (0, ())), False)
        self.assertIs(is_bar(FREE, 2, (0, ())), False)
        self.assertIs(is_bar(FREE, 1, (0, ())), True)

    def test_sets_where_there_are_more_takes_must_hold_by_themselves(self):
        self.assertIs(is_bar(FREE, 1, (0, ((),))), True)
        text = one_block([("add", "p", "x", "y")])
        self.assertIs(is_bar(text, 1, (0, ())), True)
        self.assertIs(is_bar(text, 1, (0, ((),))), False)
        self.assertIs(is_bar(text, 0, (0, ((),))), True)

    def test_a_set_less_and_a_set_more(self):
        whole = ((), (0,), (0, 1))
        self.assertIs(is_bar(CHAIN, 2, (0, whole)), True)
        for left in range(3):
            self.assertIs(is_bar(CHAIN, 2, (0, whole[:left] + whole[left + 1:])), False)
        self.assertIs(is_bar(CHAIN, 2, (0, whole + ((0, 1, 2),))), False)
        # One that cannot be come to does no harm, where it leads to none that is not there.
        self.assertIs(is_bar(CHAIN, 1, (0, ((), (0,)))), True)
        self.assertIs(is_bar(CHAIN, 1, (0, ((), (0,), (0, 1)))), True)
        self.assertIs(is_bar(CHAIN, 1, (0, ((),))), False)
        self.assertIs(is_bar(CHAIN, 0, (0, ((),))), True)
        self.assertIs(is_bar(CHAIN, 0, (0, ((), (0,)))), True)

    def test_the_empty_set_left_out(self):
        self.assertIs(is_bar(CHAIN, 0, (0, ((0,),))), False)
        self.assertIs(is_bar(CHAIN, 1, (0, ((0,), (0, 1)))), False)

    def test_the_set_of_all_rows_is_not_among_them(self):
        for k in range(4):
            self.assertIs(is_bar(CHAIN, k, (0, ((), (0,), (0, 1), (0, 1, 2)))), False)

    def test_any_order_and_sets_twice(self):
        for told in itertools.permutations([(), (0,), (0, 1), (0,)]):
            self.assertIs(is_bar(CHAIN, 2, (0, told)), True)

    def test_rows_that_make_no_value_go_on_whatever_k(self):
        text = one_block([("out", "x"), ("num", "n", 1), ("num", "m", 2)], ("x",), ("stop", ("x", "n", "m")))
        # In the plain form the nums are rows 0 and 1, the out row 2.
        self.assertIs(is_bar(text, 1, (0, ((),))), False)
        self.assertIs(is_bar(text, 1, (0, ((), (2,)))), True)
        self.assertIs(is_bar(one_block([("out", "x")], ("x",)), 0, (0, ((),))), False)

    def test_the_crowd_at_k_and_below(self):
        text = one_block([("num", "n", 1)], ("x",), ("stop", ("x", "n")))
        self.assertEqual([is_bar(text, k, (0, ((),))) for k in range(4)], [True, True, False, False])

    def test_the_block_that_it_names(self):
        one = ("p", (), (("num", "n", 1),), ("stop", ("n",)))
        other = ("q", ("x",), (("num", "n", 1),), ("stop", ("x", "n")))
        self.assertEqual(bar((one, other), 1), (1, ((),)))
        self.assertIs(is_bar((one, other), 1, (1, ((),))), True)
        self.assertIs(is_bar((one, other), 1, (0, ((),))), False)
        self.assertIs(is_bar((other, one), 1, (0, ((),))), True)
        for block in (2, -1, -2, 10 ** 299, True, False, None, "1", "q", (1,), [1], {}):
            self.assertIs(is_bar((one, other), 1, (block, ((),))), False)
        # Each truth, where the number that it is equal to would do.
        self.assertIs(is_bar((other, one), 1, (False, ((),))), False)

    def test_lists_in_the_place_of_tuples(self):
        self.assertIs(is_bar(CHAIN, 1, [0, ((), (0,))]), False)
        self.assertIs(is_bar(CHAIN, 1, (0, [(), (0,)])), False)
        self.assertIs(is_bar(CHAIN, 1, (0, ((), [0]))), False)
        self.assertIs(is_bar(CHAIN, 1, (0, ([], (0,)))), False)
        self.assertIs(is_bar(CHAIN, 1, (0, {(): 1, (0,): 1})), False)
        self.assertIs(is_bar(ROWLESS, 1, (0, [])), False)
        self.assertIs(is_bar(ROWLESS, 1, [0, ()]), False)

    def test_sets_that_are_no_done_sets(self):
        for wrong in ((1,), (0, 2), (3,), (-1,), (0, 0), (1, 0), (False,), (0, True), (None,), ("0",), ((),), None, 0, "", {}):
            self.assertIs(is_bar(CHAIN, 1, (0, ((), (0,), wrong))), False)
            self.assertIs(is_bar(CHAIN, 1, (0, ((), wrong))), False)
        self.assertIs(is_bar(FREE, 1, (0, ((), (1,), (1, 0)))), False)
        self.assertIs(is_bar(CHAIN, 1, (0, ((), (False,)))), False)

    def test_other_lengths(self):
        for thing in ((), (0,), (0, ((), (0,)), ()), (0, (), ())):
            self.assertIs(is_bar(CHAIN, 1, thing), False)
            self.assertIs(is_bar(ROWLESS, 1, thing), False)

    def test_things_of_every_kind(self):
        for text in (CHAIN, FREE, FULL, NOTHING):
            for k in (0, 2, 12, 13):
                for thing in THINGS:
                    if thing not in ((0, ()), (0, ((),))):
                        self.assertIs(is_bar(text, k, thing), False)
        # In each place of a paper that holds.
        self.assertIs(is_bar(CHAIN, 1, (0, ((), (0,)))), True)
        for thing in THINGS:
            if type(thing) is not int or thing != 0:
                self.assertIs(is_bar(CHAIN, 1, (thing, ((), (0,)))), False)
            self.assertIs(is_bar(CHAIN, 1, (0, thing)), False)
            if thing not in ((), (0,)):
                self.assertIs(is_bar(CHAIN, 1, (0, ((), (0,), thing))), False)

    def test_all_papers_of_small_texts(self):
        yes = 0
        for text in (CHAIN, FREE, one_block([("out", "x"), ("num", "n", 1)], ("x",), ("stop", ("x", "n")))):
            told = done_sets(plain(text)[0])
            for k in range(4):
                for size in range(len(told) + 1):
                    for some in itertools.combinations(told, size):
                        expected = is_paper(text, k, 0, some)
                        yes += expected
                        self.assertIs(is_bar(text, k, (0, some)), expected)
                        if expected:
                            self.assertEqual(many(text, k), 0)
        self.assertGreater(yes, 10)

    def test_papers_of_random_texts_with_a_set_less_or_more(self):
        chance = random.Random(72)
        answers = {True: 0, False: 0}
        while min(answers.values()) < 60:
            text = random_text(chance, chance.randint(1, 2), chance.randint(1, 7), 3)
            k = chance.randint(0, 4)
            found = bar(text, k)
            if found is None or not found[1]:
                continue
            block, told = found
            others = [done for done in done_sets(plain(text)[block]) if done not in told]
            changed = [told[:at] + told[at + 1:] for at in range(len(told))] + [told + (done,) for done in others]
            for some in chance.sample(changed, min(6, len(changed))):
                expected = is_paper(text, k, block, some)
                answers[expected] += 1
                self.assertIs(is_bar(text, k, (block, some)), expected)

    def test_six_takes(self):
        text = one_block([], number_of_values(6))
        self.assertEqual([is_bar(text, k, (0, ())) for k in (0, 5, 6, 7, 13)], [True, True, False, False, False])


if __name__ == "__main__":
    unittest.main()
