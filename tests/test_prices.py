import copy
import random
import unittest

from codelots.counts import least, many
from codelots.errors import Empty, LotError, NoCode, Twin
from codelots.numbers import code_of, number_of
from codelots.plain import plain
from codelots.prices import cheapest, price_of, shows_least, worths
from codelots.reading import read
from tests.oracle import (
    block_price_of, codes, counts_of, crowd_of, done_sets, following_rows, makes, row_price_of, with_row, worths_of,
)
from tests.samples import (
    CODE, FULL, THINGS, WORDS, code, code_block, disguised, number_of_values, one_block, random_code, random_text,
)

NOTHING = one_block([], ())
# In the plain form num c, num d, less e (c - d); the finish takes e and a.
SMALL = one_block(
    [("num", "n", 1), ("num", "m", 2), ("less", "p", "n", "m")], ("x",), ("stop", ("p", "x")),
)


def flat(hold=0, **numbers):
    """Prices that are one and the same at all sizes, 0 where none is told."""
    return ({word: (numbers.get(word, 0),) * 14 for word in WORDS}, hold)


def random_prices(chance, most=9):
    return (
        {word: tuple(chance.randint(0, most) for _ in range(14)) for word in chance.sample(WORDS, 8)},
        chance.choice((0, 1, 2, chance.randint(0, 1000))),
    )


FREE_OF_COST = flat()
RISING = ({word: tuple(10 ** 6 if word == "num" and at else at for at in range(14)) for word in WORDS}, 0)


def small_cases(seed, count, most=1500):
    """Random texts with a few codes, or none, for k registers, and prices."""
    chance = random.Random(seed)
    while count > 0:
        text = random_text(chance, chance.randint(1, 3), chance.randint(0, 6), 2)
        k = chance.randint(0, 5)
        if many(text, k) <= most:
            count -= 1
            yield chance, text, k, random_prices(chance, chance.choice((1, 3, 9)))


class PriceOf(unittest.TestCase):
    def test_no_rows(self):
        self.assertEqual(price_of((code_block((), ()),), flat(1000, num=5)), 0)
        # What lives while no row is done costs nothing.
        self.assertEqual(price_of(code(finish=("stop", (0, 1))), flat(1000)), 0)

    def test_each_word_has_its_number(self):
        rows = {
            "num": ("num", 2, 7), "add": ("add", 2, 0, 1), "less": ("less", 2, 0, 1), "times": ("times", 2, 0, 1),
            "min": ("min", 2, 0, 1), "read": ("read", 2, "c"), "write": ("write", "c", 0), "out": ("out", 0),
        }
        for at, word in enumerate(WORDS):
            prices = ({other: (10 ** number,) * 14 for number, other in enumerate(WORDS)}, 0)
            prices = ({other: tuple(min(10 ** 6, number) for number in prices[0][other]) for other in WORDS}, 0)
            self.assertEqual(price_of(code([rows[word]]), prices), min(10 ** 6, 10 ** at))

    def test_the_sets_size_counts(self):
        numbers = tuple(3 ** at for at in range(13)) + (10 ** 6,)
        prices = ({word: numbers if word == "out" else (0,) * 14 for word in WORDS}, 0)
        for count in range(15):
            self.assertEqual(price_of(code([("out", 0)] * count), prices), sum(numbers[:count]))
        mixed = code([("write", "c", 0), ("out", 0), ("write", "c", 1), ("out", 1)])
        self.assertEqual(price_of(mixed, prices), 3 + 27)

    def test_hold_for_each_value_that_lives_behind(self):
        # Behind the num a, b and c live; behind the add d; behind the out nothing.
        rows = [("num", 2, 7), ("add", 0, 0, 2), ("out", 0)]
        self.assertEqual(price_of(code(rows, finish=("stop", (1,))), flat(10)), 30 + 20 + 10)
        self.assertEqual(price_of(code(rows), flat(10)), 20 + 10 + 0)
        # A made value that nothing takes doesn't live.
        self.assertEqual(price_of(code([("num", 2, 7)], finish=("stop", (0,))), flat(10)), 10)
        self.assertEqual(price_of(code([("num", 2, 7)], finish=("stop", (2,))), flat(10)), 10)
        self.assertEqual(price_of(code([("num", 2, 7)], finish=("stop", (2, 0, 0))), flat(10)), 20)

    def test_the_order_of_the_rows_counts_and_registers_and_ends_do_not(self):
        prices = flat(1, num=1)
        early = code([("num", 2, 7), ("out", 0), ("out", 2)])
        late = code([("out", 0), ("num", 2, 7), ("out", 2)])
        self.assertEqual(price_of(early, prices), 1 + 2 + 1)
        self.assertEqual(price_of(late, prices), 0 + 2 + 0)
        one = code([("add", 2, 0, 1), ("out", 2)])
        other = code([("add", 0, 5, 9), ("out", 0)], (9, 5))
        self.assertEqual(price_of(one, flat(7, add=3)), price_of(other, flat(7, add=3)))

    def test_all_blocks(self):
        prices = flat(0, num=5, out=7)
        thing = (code_block([("num", 0, 1)], (), name="p"), code_block([("out", 0)], (0,), name="q"))
        self.assertEqual(price_of(thing, prices), 12)

    def test_refused_as_reading_is(self):
        for thing, kind, block, row in (
            (code([("out", 0), ("out", 5)]), Empty, 0, 1), (code(finish=("stop", (2,))), Empty, 0, 0),
            ((code_block(), code_block([("num", 0, 5), ("num", 1, 5)], name="c")), Twin, 1, 1),
            (code([("num", 0, 5), ("num", 1, 5), ("out", 9)]), Twin, 0, 1),
            (code([("num", 0, 5), ("out", 9), ("num", 1, 5)]), Empty, 0, 1),
        ):
            with self.assertRaises(LotError) as caught:
                price_of(thing, FREE_OF_COST)
            self.assertIs(type(caught.exception), kind)
            self.assertEqual((caught.exception.block, caught.exception.row), (block, row))

    def test_random_codes(self):
        chance = random.Random(81)
        found = 0
        while found < 150:
            text = random_text(chance, chance.randint(1, 4), 14, 3)
            thing = random_code(chance, text, chance.randint(1, 12))
            if thing is None:
                continue
            found += 1
            prices = random_prices(chance, 10 ** 6)
            before = copy.deepcopy((thing, prices))
            expected = sum(block_price_of(form, block, prices) for form, block in zip(plain(text), thing))
            self.assertEqual(price_of(thing, prices), expected)
            self.assertEqual((thing, prices), before)


class Cheapest(unittest.TestCase):
    def test_no_rows(self):
        self.assertEqual(cheapest(NOTHING, 0, flat(3)), ((("b", (), (), ("stop", ())),), 0))
        self.assertEqual(cheapest(one_block([]), 2, flat(3)), ((("b", (0, 1), (), ("stop", ())),), 0))

    def test_with_prices_of_0_it_is_the_code_of_number_0(self):
        for text in (NOTHING, SMALL, FULL, one_block([]), one_block([("add", "p", "y", "x")])):
            for k in (least(text), 5, 12, 13):
                self.assertEqual(cheapest(text, k, FREE_OF_COST), (code_of(text, k, 0), 0))

    def test_no_code(self):
        for text in (SMALL, FULL, one_block([]), one_block([("num", "n", 1)], ()), one_block([], number_of_values(6))):
            for k in range(least(text)):
                with self.assertRaises(LotError) as caught:
                    cheapest(text, k, FREE_OF_COST)
                self.assertIs(type(caught.exception), NoCode)
            self.assertEqual(cheapest(text, least(text), FREE_OF_COST)[1], 0)
        with self.assertRaises(NoCode):
            cheapest((("p", (), (), ("stop", ())),) + one_block([]), 1, flat(2))

    def test_a_dear_row_first(self):
        # The num costs 1 at the front and much behind, the out the more the later.
        text = one_block([("out", "x"), ("num", "n", 7)], ("x",))
        told, price = cheapest(text, 2, RISING)
        self.assertEqual(told[0][2], (("num", 1, 7), ("out", 0)))
        self.assertEqual(price, 1)
        told, price = cheapest(text, 2, flat(1))
        self.assertEqual((told[0][2], price), ((("out", 0), ("num", 0, 7)), 0))

    def test_few_registers_may_cost_more(self):
        # With two registers the num must come when the less has made room.
        rows = [("less", "p", "x", "y"), ("num", "n", 7), ("out", "n")]
        text = one_block(rows, finish=("stop", ("p",)))
        prices = ({word: (0,) + (9,) * 13 if word == "num" else (0,) * 14 for word in WORDS}, 0)
        self.assertEqual(cheapest(text, 3, prices)[1], 0)
        self.assertEqual(cheapest(text, 2, prices), (code_of(text, 2, 0), 9))

    def test_of_equal_prices_the_least_number_block_by_block(self):
        for chance, text, k, prices in small_cases(82, 150):
            found = [(price_of(thing, prices), number) for number, thing in enumerate(codes(text, k))]
            if not found:
                with self.assertRaises(NoCode):
                    cheapest(text, k, prices)
                continue
            price, number = min(found)
            told = cheapest(text, k, prices)
            self.assertEqual(told, (codes(text, k)[number], price))
            self.assertEqual(number_of(told[0], k)[1], number)

    def test_kinds_and_what_is_handed_in(self):
        for chance, text, k, prices in small_cases(83, 40):
            if many(text, k):
                before = copy.deepcopy((text, prices))
                told = cheapest(text, k, prices)
                self.assertEqual([type(told), type(told[0]), type(told[1])], [tuple, tuple, int])
                self.assertEqual(read(told[0]), plain(text))
                self.assertEqual((text, prices), before)

    def test_texts_that_are_one(self):
        for chance, text, k, prices in small_cases(84, 40):
            if many(text, k):
                self.assertEqual(cheapest(disguised(chance, text), k, prices), cheapest(text, k, prices))

    def test_large_ones(self):
        chance = random.Random(85)
        rows = [("num", "n" + sign, at) for at, sign in enumerate("abcdefghijklmn")]
        wide = one_block(rows, number_of_values(6), ("stop", ("na", "nb", "nc", "nd", "ne", "nf")))
        for text in (wide, random_text(chance, 6, 14, 3), random_text(chance, 6, 14, 3)):
            prices = random_prices(chance, 10 ** 6)
            for k in (least(text), 12, 13):
                told, price = cheapest(text, k, prices)
                self.assertEqual(price_of(told, prices), price)
                self.assertEqual(read(told), plain(text))
                parts = [worths(text, block, k, prices) for block in range(len(text))]
                self.assertEqual(sum(part[()] for part in parts), price)
                for block, part in enumerate(parts):
                    self.assertIs(shows_least(text, block, k, prices, part, part[()]), True)


class Worths(unittest.TestCase):
    def test_no_rows(self):
        self.assertEqual(worths(NOTHING, 0, 0, flat(9)), {(): 0})
        # The takes don't count: from the empty set on there is one.
        self.assertEqual(worths(one_block([]), 0, 1, flat(9)), {(): 0})

    def test_a_small_block(self):
        self.assertEqual(plain(SMALL)[0][2], (("num", "b", 1), ("num", "c", 2), ("less", "d", "b", "c")))
        prices = ({word: (1, 10, 100) + (0,) * 11 for word in WORDS}, 1000)
        told = {(): 7111, (0,): 5110, (1,): 5110, (0, 1): 2100, (0, 1, 2): 0}
        self.assertEqual(worths(SMALL, 0, 3, prices), told)
        self.assertEqual(worths(SMALL, 0, 12, prices), told)

    def test_none_where_no_code_goes_on(self):
        told = worths(SMALL, 0, 2, flat(1))
        # Behind the first num there is no place for the second one; the less has one.
        self.assertEqual(told, {(): None, (0,): None, (1,): None, (0, 1): 2, (0, 1, 2): 0})
        self.assertEqual(worths(SMALL, 0, 0, flat(1)), {(): None, (0,): None, (1,): None, (0, 1): None, (0, 1, 2): 0})

    def test_each_block_by_its_number(self):
        text = (("p", (), (("num", "n", 1),), ("stop", ())), ("q", (), (("read", "n", "c"),), ("stop", ("n",))))
        prices = flat(3, num=5, read=7)
        self.assertEqual(worths(text, 0, 1, prices), {(): 5, (0,): 0})
        self.assertEqual(worths(text, 1, 1, prices), {(): 10, (0,): 0})

    def test_random_blocks(self):
        for chance, text, k, prices in small_cases(86, 120):
            for block, form in enumerate(plain(text)):
                told = worths(text, block, k, prices)
                self.assertEqual(told, worths_of(form, k, prices))
                counts = counts_of(form, k)
                self.assertEqual(list(told), done_sets(form))
                self.assertEqual([told[done] is None for done in told], [counts[done] == 0 for done in told])
                self.assertEqual(worths(disguised(chance, text), block, k, prices), told)

    def test_the_dict_is_new(self):
        told = worths(SMALL, 0, 3, flat(1))
        self.assertIs(type(told), dict)
        before = dict(told)
        told.clear()
        self.assertEqual(worths(SMALL, 0, 3, flat(1)), before)


def shows(form, k, prices, told, price):
    """Whether worths show that nothing costs less, by the document's words."""
    whole = tuple(range(len(form[2])))
    if told[whole] is None or told[whole] > 0 or told[()] != price:
        return False
    for done in done_sets(form):
        for at in following_rows(form, done):
            behind = told[with_row(done, at)]
            if behind is None or (makes(form[2][at]) and crowd_of(form, done, at) >= k):
                continue
            if told[done] is None or told[done] > row_price_of(form, done, at, prices) + behind:
                return False
    return True


class ShowsLeast(unittest.TestCase):
    prices = ({word: (1, 10, 100) + (0,) * 11 for word in WORDS}, 1000)

    def shown(self, told, price, k=3, text=SMALL, block=0):
        return shows_least(text, block, k, self.prices, told, price)

    def test_told_ones_that_begin_with_a_number(self):
        told = worths(SMALL, 0, 3, self.prices)
        self.assertIs(self.shown(told, 7111), True)
        for price in (7110, 7112, 0, -7111, 10 ** 299, None, True, "7111", (7111,), [7111]):
            self.assertIs(self.shown(told, price), False)

    def test_told_ones_that_begin_with_none(self):
        told = worths(SMALL, 0, 2, self.prices)
        for price in (None, 0, 1, False):
            self.assertIs(self.shown(told, price, 2), False)

    def test_the_set_of_all_rows(self):
        told = worths(SMALL, 0, 3, self.prices)
        told[(0, 1, 2)] = 1
        self.assertIs(self.shown(told, 7111), False)
        told[(0, 1, 2)] = None
        self.assertIs(self.shown(told, 7111), False)
        told[(0, 1, 2)] = -1
        self.assertIs(self.shown(told, 7111), False)
        # All lesser by one hold, too, and show less.
        lesser = {done: worth - 1 for done, worth in worths(SMALL, 0, 3, self.prices).items()}
        self.assertIs(self.shown(lesser, 7110), True)
        self.assertIs(self.shown(lesser, 7111), False)

    def test_none_among_worths(self):
        # From each set on there is a way to a worth, so None is not told rightly of any.
        for some in ([(0,)], [(0,), (0, 1)], [(0,), (1,), (0, 1)], [()]):
            told = worths(SMALL, 0, 3, self.prices)
            for done in some:
                told[done] = None
            self.assertIs(self.shown(told, 7111), False)
        # With two registers there is none: any number may stand at the empty set, but None does not show it.
        told = {(): 10 ** 9, (0,): None, (1,): None, (0, 1): 2100, (0, 1, 2): 0}
        self.assertIs(self.shown(told, 10 ** 9, 2), True)
        self.assertIs(self.shown(told, 10 ** 9, 3), False)
        told[()] = None
        self.assertIs(self.shown(told, 10 ** 9, 2), False)
        self.assertIs(self.shown(told, None, 2), False)

    def test_a_worth_that_is_too_great(self):
        for done in ((), (0,), (1,), (0, 1)):
            told = worths(SMALL, 0, 3, self.prices)
            told[done] += 1
            self.assertIs(self.shown(told, told[()]), False)
        told = worths(SMALL, 0, 3, self.prices)
        told[()] -= 1
        self.assertIs(self.shown(told, 7110), True)

    def test_rows_without_a_place_do_not_count(self):
        # The nums' crowd is 1 behind the empty set, 2 behind the other one.
        told = {(): 5000, (0,): 1, (1,): 1, (0, 1): 2100, (0, 1, 2): 0}
        self.assertEqual([self.shown(told, 5000, k) for k in range(4)], [True, True, False, False])
        told = {(): 5, (0,): None, (1,): 10 ** 9, (0, 1): 2100, (0, 1, 2): 0}
        self.assertEqual([self.shown(told, 5, k) for k in range(4)], [True, True, True, False])

    def test_rows_that_make_no_value_have_a_place_always(self):
        text = one_block([("out", "x")], ("x",))
        self.assertIs(self.shown({(): 1, (0,): 0}, 1, 0, text), True)
        self.assertIs(self.shown({(): 2, (0,): 0}, 2, 0, text), False)

    def test_dicts_that_are_not_from_all_done_sets(self):
        told = worths(SMALL, 0, 3, self.prices)
        for done in list(told):
            less = {other: told[other] for other in told if other != done}
            self.assertIs(self.shown(less, 7111), False)
        for wrong in ((2,), (1, 0), (0, 0), (3,), (-1,), None, 0, "a", ((0,),)):
            self.assertIs(self.shown({**told, wrong: 0}, 7111), False)
        # A truth is equal to a number, but no number of a row.
        truths = {(): 7111, (False,): 5110, (1,): 5110, (0, 1): 2100, (0, 1, 2): 0}
        self.assertIs(self.shown(truths, 7111), False)
        truths = {(): 7111, (0,): 5110, (1,): 5110, (0, True): 2100, (0, 1, 2): 0}
        self.assertIs(self.shown(truths, 7111), False)

    def test_worths_that_are_no_numbers(self):
        for wrong in (True, False, "1", (), [], {}, [0]):
            for done in ((), (0,), (0, 1, 2)):
                told = worths(SMALL, 0, 3, self.prices)
                told[done] = wrong
                self.assertIs(self.shown(told, told[()]), False)

    def test_things_of_every_kind(self):
        for thing in THINGS:
            self.assertIs(self.shown(thing, 0), False)
            self.assertIs(self.shown(worths(SMALL, 0, 3, self.prices), thing), False)
        self.assertIs(self.shown({(): None}, None, 0, NOTHING), False)
        self.assertIs(self.shown({(): 0}, 0, 0, NOTHING), True)

    def test_each_block_by_its_number(self):
        text = (("p", (), (("num", "n", 1),), ("stop", ())), ("q", (), (("read", "n", "c"),), ("stop", ("n",))))
        self.assertIs(self.shown({(): 1, (0,): 0}, 1, 1, text, 0), True)
        self.assertIs(self.shown({(): 1001, (0,): 0}, 1001, 1, text, 0), False)
        self.assertIs(self.shown({(): 1001, (0,): 0}, 1001, 1, text, 1), True)

    def test_random_worths(self):
        answers = {True: 0, False: 0}
        for chance, text, k, prices in small_cases(87, 200):
            form = plain(text)[0]
            told = worths(text, 0, k, prices)
            self.assertIs(shows_least(text, 0, k, prices, told, told[()]), told[()] is not None)
            for _ in range(6):
                done = chance.choice(list(told))
                before = told[done]
                told[done] = chance.choice((None, 0, -3, (before or 0) + 1, (before or 0) - 1, before))
                if told[()] is None:
                    told[()] = 0
                kept = copy.deepcopy(told)
                answer = shows_least(text, 0, k, prices, told, told[()])
                self.assertIs(answer, shows(form, k, prices, told, told[()]))
                self.assertEqual(told, kept)
                answers[answer] += 1
                if answer and len(text) == 1 and many(text, k):
                    self.assertLessEqual(told[()], cheapest(text, k, prices)[1])
        self.assertGreater(min(answers.values()), 100)


class Longer(unittest.TestCase):
    def test_somewhat_longer_blocks_go_by_the_last_number(self):
        text = one_block([("out", "x")] * 16, ("x",))
        prices = ({word: tuple(range(14)) for word in WORDS}, 0)
        told, price = cheapest(text, 1, prices)
        self.assertEqual(price, sum(range(14)) + 13 + 13)
        self.assertEqual(price_of(told, prices), price)

    def test_the_sample(self):
        self.assertEqual(price_of(CODE, flat(0, num=1, out=10)), 21)
        self.assertEqual(cheapest(FULL, 4, flat(0, num=1, out=10)), (code_of(FULL, 4, 0), 21))


if __name__ == "__main__":
    unittest.main()
