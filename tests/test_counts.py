import copy
import random
import unittest

from codelots.counts import least, many, polynomial
from codelots.plain import plain
from codelots.steps import Steps, bits, rows_in, size_of
from tests.oracle import TINY, candidates, count_of, crowd_of, done_sets, following_rows, makes, reads_to
from tests.samples import FULL, disguised, living_in, number_of_values, one_block, random_text

NOTHING = one_block([], ())
TAKES = one_block([])


def at(numbers, k):
    """What a polynomial tells at k."""
    return sum(number * k ** power for power, number in enumerate(numbers))


def makers(count, takes=(), finish=("stop", ())):
    return one_block([("num", "n" + "abcdefghijklmn"[k], k) for k in range(count)], takes, finish)


def random_texts(seed, count, rows=7):
    chance = random.Random(seed)
    for _ in range(count):
        yield chance, random_text(chance, chance.randint(1, 3), chance.randint(0, rows), 3)


class Many(unittest.TestCase):
    def test_no_takes_and_no_rows(self):
        self.assertEqual([many(NOTHING, k) for k in (0, 1, 5, 12, 13, 10 ** 299)], [1] * 6)

    def test_takes_alone(self):
        self.assertEqual([many(TAKES, k) for k in (0, 1, 2, 3, 12, 13)], [0, 0, 2, 6, 132, 156])
        text = one_block([], number_of_values(6))
        self.assertEqual([many(text, k) for k in (0, 1, 5, 6, 7, 12)], [0, 0, 0, 720, 5040, 665280])

    def test_a_value_that_nothing_takes_needs_a_place_all_the_same(self):
        self.assertEqual([many(makers(1), k) for k in range(4)], [0, 1, 2, 3])
        self.assertEqual([many(makers(2), k) for k in range(4)], [0, 2, 8, 18])
        # The take is in the finish, so there is a place less.
        text = makers(1, ("x",), ("stop", ("x",)))
        self.assertEqual([many(text, k) for k in range(4)], [0, 0, 2, 6])

    def test_a_row_may_be_put_where_its_own_end_lies(self):
        text = one_block([("less", "p", "x", "y")], finish=("stop", ("p",)))
        self.assertEqual([many(text, k) for k in range(5)], [0, 0, 4, 18, 48])

    def test_even_rows_with_unlike_ends_count_twice(self):
        for word in ("add", "times", "min"):
            self.assertEqual(many(one_block([(word, "p", "x", "y")]), 3), 6 * 3 * 2)
            self.assertEqual(many(one_block([(word, "p", "y", "x")]), 3), 6 * 3 * 2)
            self.assertEqual(many(one_block([(word, "p", "x", "x")]), 3), 6 * 3)
        self.assertEqual(many(one_block([("less", "p", "x", "y")]), 3), 6 * 3)

    def test_rows_that_make_no_value_have_one_way(self):
        self.assertEqual(many(one_block([("out", "x"), ("out", "y")]), 4), 12)
        self.assertEqual(many(one_block([("out", "x"), ("write", "c", "y")]), 4), 12 * 2)
        self.assertEqual(many(one_block([("write", "c", "x"), ("write", "c", "y")]), 4), 12)
        self.assertEqual(many(one_block([("write", "c", "x"), ("write", "d", "y")]), 2), 2 * 2)
        self.assertEqual(many(one_block([("out", "x"), ("write", "c", "y")]), 1), 0)

    def test_blocks_multiply(self):
        one = ("p", ("x",), (("num", "n", 1),), ("stop", ()))
        other = ("q", (), (("num", "n", 1), ("num", "m", 2)), ("stop", ()))
        self.assertEqual([many((one,), k) for k in range(4)], [0, 1, 4, 9])
        self.assertEqual([many((one, other), k) for k in range(4)], [0, 2, 32, 162])
        self.assertEqual([many((one, other) + TAKES, k) for k in range(4)], [0, 0, 64, 972])

    def test_below_at_and_above_the_least(self):
        self.assertEqual(least(FULL), 3)
        self.assertEqual([many(FULL, k) for k in (0, 1, 2)], [0, 0, 0])
        self.assertEqual([many(FULL, k) for k in (3, 4, 12)], [count_of(FULL, k) for k in (3, 4, 12)])
        self.assertGreater(many(FULL, 3), 0)

    def test_beyond_twelve_registers(self):
        text = one_block([("add", "p", "x", "y")], finish=("stop", ("p", "x")))
        for k in (12, 13, 14, 20, 100, 10 ** 6, 10 ** 298):
            self.assertEqual(many(text, k), k * (k - 1) * (k - 1) * 2)
            self.assertEqual(many(FULL, k), count_of(FULL, k))

    def test_tried_codes(self):
        for text in TINY:
            for k in range(4):
                self.assertEqual(many(text, k), len({told for told in candidates(text, k) if reads_to(told, text)}))

    def test_random_texts_by_the_documents_words(self):
        for _, text in random_texts(51, 60):
            for k in (0, 1, 2, 3, 4, 5, 7, 12, 13, 40):
                self.assertEqual(many(text, k), count_of(text, k))

    def test_texts_that_are_one_count_the_same(self):
        for chance, text in random_texts(52, 40, 10):
            other = disguised(chance, text)
            self.assertEqual([many(other, k) for k in range(9)], [many(text, k) for k in range(9)])
            self.assertEqual(polynomial(other), polynomial(text))
            self.assertEqual(least(other), least(text))

    def test_the_largest_texts(self):
        text = tuple(
            (name, number_of_values(6), makers(14)[0][2], ("stop", ("na", "nb", "nc", "nd", "ne", "nf")))
            for name in "abcdef"
        )
        self.assertEqual([many(text, k) > 0 for k in (5, 6, 12)], [False, True, True])
        self.assertEqual(at(polynomial(text), 7), many(text, 7))
        self.assertEqual(many(text, 12), many(text[:1], 12) ** 6)
        # All orders of the rows, and all places for each.
        orders = 1
        for size in range(1, 15):
            orders *= size
        self.assertEqual(many(makers(14), 12), orders * 12 ** 14)


class Polynomial(unittest.TestCase):
    def test_no_takes_and_no_rows(self):
        self.assertEqual(polynomial(NOTHING), [1])
        self.assertEqual(polynomial(one_block([], (), ("go", "b", ()))), [1])

    def test_small_ones(self):
        self.assertEqual(polynomial(TAKES), [0, -1, 1])
        self.assertEqual(polynomial(one_block([], ("x", "y", "z"))), [0, 2, -3, 1])
        self.assertEqual(polynomial(makers(2)), [0, 0, 2])
        self.assertEqual(polynomial(one_block([("out", "x")], ("x",))), [0, 1])
        self.assertEqual(polynomial(one_block([("add", "p", "x", "y")], finish=("stop", ("p", "x")))), [0, 2, -4, 2])
        self.assertEqual(polynomial(one_block([("write", "c", "x"), ("write", "d", "x")], ("x",))), [0, 2])

    def test_blocks_multiply(self):
        one = ("p", ("x", "y"), (), ("stop", ()))
        other = ("q", (), (("num", "n", 1), ("num", "m", 2)), ("stop", ()))
        self.assertEqual(polynomial((one, other)), [0, 0, 0, -2, 2])
        self.assertEqual(polynomial((other, one)), [0, 0, 0, -2, 2])

    def test_it_tells_the_count_at_each_k(self):
        for _, text in random_texts(53, 60, 10):
            told = polynomial(text)
            for k in list(range(24)) + [100, 10 ** 9]:
                self.assertEqual(at(told, k), many(text, k))

    def test_it_tells_no_codes_where_a_crowd_is_above_k(self):
        # At one step the crowd is 8, so that k less the crowd would be -7 of 1.
        text = makers(9, ("x",), ("stop", ("na", "nb", "nc", "nd", "ne", "nf")))
        finish = ("when", "ng", "b", ("nh",), "b", ("ni",))
        text = (text[0][:3] + (finish,),)
        told = polynomial(text)
        self.assertEqual([at(told, k) for k in range(10)], [many(text, k) for k in range(10)])
        self.assertEqual([k for k in range(10) if at(told, k) == 0], [0, 1, 2])
        text = (text[0][:3] + (("stop", tuple("n" + sign for sign in "abcdef")),),)
        told = polynomial(text)
        self.assertEqual([k for k in range(10) if at(told, k) == 0], [0, 1, 2, 3, 4, 5])

    def test_its_length_and_its_last_number(self):
        for _, text in random_texts(54, 60, 10):
            told = polynomial(text)
            values = sum(len(block[1]) + sum(makes(row) for row in block[2]) for block in text)
            self.assertEqual(len(told), values + 1)
            self.assertGreater(told[-1], 0)
            self.assertEqual({type(number) for number in told}, {int})

    def test_the_list_is_new(self):
        for text in (NOTHING, FULL):
            told = polynomial(text)
            self.assertIs(type(told), list)
            before = list(told)
            told.append(7)
            told[0] = 9
            self.assertEqual(polynomial(text), before)


class Least(unittest.TestCase):
    def test_small_ones(self):
        self.assertEqual(least(NOTHING), 0)
        self.assertEqual(least(one_block([("num", "n", 1)], ())), 1)
        self.assertEqual(least(TAKES), 2)
        self.assertEqual(least(one_block([], number_of_values(6))), 6)
        self.assertEqual(least(makers(14)), 1)
        self.assertEqual(least(makers(1, ("x",), ("stop", ("x",)))), 2)
        self.assertEqual(least(one_block([("add", "p", "x", "y")], finish=("stop", ("p",)))), 2)
        self.assertEqual(least(one_block([("add", "p", "x", "y")], finish=("stop", ("p", "x", "y")))), 3)

    def test_the_best_order_counts(self):
        # Each num next to its out needs one register, all nums first would need three.
        rows = [("num", "na", 1), ("num", "nb", 2), ("num", "nc", 3), ("out", "na"), ("out", "nb"), ("out", "nc")]
        self.assertEqual(least(one_block(rows, ())), 1)

    def test_the_block_with_the_greatest(self):
        one = ("p", (), (("num", "n", 1),), ("stop", ()))
        self.assertEqual(least((one,) + TAKES), 2)
        self.assertEqual(least(TAKES + (one,)), 2)

    def test_it_is_the_least_k_with_a_count_and_each_greater_one_has_one(self):
        found = set()
        for _, text in random_texts(55, 120, 10):
            told = least(text)
            found.add(told)
            self.assertIs(type(told), int)
            self.assertEqual([many(text, k) > 0 for k in range(24)], [k >= told for k in range(24)])
        self.assertGreater(len(found), 4)


class Handed(unittest.TestCase):
    def test_what_is_handed_in_stays(self):
        for _, text in random_texts(56, 20):
            before = copy.deepcopy(text)
            many(text, 4)
            polynomial(text)
            least(text)
            self.assertEqual(text, before)

    def test_somewhat_longer_texts(self):
        text = one_block([("num", "n" + sign, at) for at, sign in enumerate("abcdefghijklmnop")], number_of_values(7))
        self.assertEqual(least(text), 7)
        self.assertEqual(at(polynomial(text), 9), many(text, 9))


class Bits(unittest.TestCase):
    """The sets that the counts go by."""

    def test_sets_there_and_back(self):
        for done in ((), (0,), (3,), (0, 2, 3), tuple(range(14))):
            self.assertEqual(rows_in(bits(done)), done)
            self.assertEqual(size_of(bits(done)), len(done))
        self.assertEqual(bits((0, 2)), 5)

    def test_steps_by_the_documents_words(self):
        for _, text in random_texts(57, 40):
            for form in plain(text):
                steps = Steps(form)
                told = done_sets(form)
                self.assertEqual(sorted(steps.lives), sorted(bits(done) for done in told))
                self.assertEqual(steps.backwards(), sorted((bits(done) for done in told), reverse=True)[1:])
                for done in told:
                    self.assertEqual(steps.lives[bits(done)], len(living_in(form, done)))
                    self.assertEqual(steps.after(bits(done)), following_rows(form, done))
                    for row in following_rows(form, done):
                        if makes(form[2][row]):
                            self.assertEqual(steps.crowd(bits(done), row), crowd_of(form, done, row))


if __name__ == "__main__":
    unittest.main()
