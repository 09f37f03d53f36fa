import copy
import random
import unittest

from codelots.codes import is_code
from codelots.counts import least, many
from codelots.errors import Empty, LotError, NoNumber, Twin
from codelots.numbers import code_of, number_of
from codelots.plain import are_one, plain
from codelots.reading import read
from tests.oracle import TINY, candidates, codes, makes, reads_to, rows_done
from tests.samples import CODE, FULL, THINGS, code, code_block, disguised, number_of_values, one_block, random_code, random_text

NOTHING = one_block([], ())


def refusal(kind, asked, *args):
    """The refusal of just that kind which asking ends in."""
    try:
        asked(*args)
    except LotError as error:
        if type(error) is kind:
            return error
        raise
    raise AssertionError((kind, args))


def small_texts(seed, count, most=2000):
    """Random texts, each with a k for which it has a few codes."""
    chance = random.Random(seed)
    while count > 0:
        text = random_text(chance, chance.randint(1, 3), chance.randint(0, 5), 2)
        k = chance.randint(0, 4)
        if 0 < many(text, k) <= most:
            count -= 1
            yield text, k


def order_key(thing, text):
    """By what the codes of a text stand in order: block by block the map, then row by row."""
    told = []
    for form, block in zip(plain(text), thing):
        holds = dict(zip(block[1], form[1]))
        told.append(block[1])
        for row, at in zip(block[2], rows_done(form, block)):
            row_ends = row[2:] if len(row) == 4 else ()
            swapped = tuple(holds[place] for place in row_ends) != (form[2][at][2:] if row_ends else ())
            told.append((at, swapped, row[1] if makes(row) else None))
            if makes(row):
                holds[row[1]] = form[2][at][1]
    return told


class Order(unittest.TestCase):
    def all_codes(self, text, k):
        return [code_of(text, k, number) for number in range(many(text, k))]

    def test_one_code(self):
        self.assertEqual(code_of(NOTHING, 0, 0), (("b", (), (), ("stop", ())),))
        self.assertEqual(code_of(NOTHING, 12, 0), (("b", (), (), ("stop", ())),))
        self.assertEqual(number_of((("b", (), (), ("stop", ())),), 0), (NOTHING, 0))

    def test_maps_as_tuples(self):
        told = [thing[0][1] for thing in self.all_codes(one_block([]), 3)]
        self.assertEqual(told, [(0, 1), (0, 2), (1, 0), (1, 2), (2, 0), (2, 1)])

    def test_the_map_ahead_of_the_rows(self):
        told = [(thing[0][1], thing[0][2]) for thing in self.all_codes(one_block([("num", "n", 7)], ("x",)), 2)]
        self.assertEqual(told, [
            ((0,), (("num", 0, 7),)), ((0,), (("num", 1, 7),)), ((1,), (("num", 0, 7),)), ((1,), (("num", 1, 7),)),
        ])

    def test_rows_by_their_numbers_in_the_plain_form(self):
        text = one_block([("out", "x"), ("write", "c", "x"), ("read", "r", "d")], ("x",))
        told = [tuple(row[0] for row in thing[0][2]) for thing in self.all_codes(text, 1)]
        self.assertEqual(told, [
            ("write", "out", "read"), ("out", "write", "read"),
        ])
        told = [tuple(row[0] for row in thing[0][2]) for thing in self.all_codes(text, 2)]
        self.assertEqual(told[:4], [("read", "write", "out"), ("read", "out", "write"), ("write", "read", "out"),
                                    ("write", "out", "read")])

    def test_a_row_ahead_of_the_registers_of_later_ones(self):
        # By rows the order is read, num; by registers alone it would be another.
        text = one_block([("num", "n", 5), ("num", "m", 3)], ())
        told = [thing[0][2] for thing in self.all_codes(text, 2)]
        first = [(("num", one, 3), ("num", other, 5)) for one in (0, 1) for other in (0, 1)]
        second = [(("num", one, 5), ("num", other, 3)) for one in (0, 1) for other in (0, 1)]
        self.assertEqual(told, first + second)

    def test_ends_ahead_of_swapped_ones_ahead_of_registers(self):
        text = one_block([("add", "p", "y", "x")])
        told = [thing[0][2] for thing in self.all_codes(text, 2)]
        self.assertEqual(told, [
            (("add", 0, 0, 1),), (("add", 1, 0, 1),), (("add", 0, 1, 0),), (("add", 1, 1, 0),),
            (("add", 0, 1, 0),), (("add", 1, 1, 0),), (("add", 0, 0, 1),), (("add", 1, 0, 1),),
        ])

    def test_one_end_twice_and_less_are_not_swapped(self):
        for row in (("add", "p", "x", "x"), ("times", "p", "y", "y"), ("min", "p", "x", "x"), ("less", "p", "y", "x")):
            told = self.all_codes(one_block([row]), 2)
            self.assertEqual(len(told), 4)
            self.assertEqual(len(set(told)), 4)
            ends = {thing[0][2][0][2:] for thing in told if thing[0][1] == (0, 1)}
            self.assertEqual(ends, {tuple("xy".index(end) for end in row[2:])})

    def test_registers_of_values_that_live_are_left_out(self):
        text = one_block([("num", "n", 7)], ("x",), ("stop", ("x", "n")))
        told = [(thing[0][1][0], thing[0][2][0][1], thing[0][3][1]) for thing in self.all_codes(text, 3)]
        self.assertEqual(told, [
            (0, 1, (0, 1)), (0, 2, (0, 2)), (1, 0, (1, 0)), (1, 2, (1, 2)), (2, 0, (2, 0)), (2, 1, (2, 1)),
        ])

    def test_the_first_block_counts_most(self):
        one = ("p", ("x",), (), ("stop", ()))
        other = ("q", ("x", "y"), (), ("stop", ()))
        told = [(thing[0][1], thing[1][1]) for thing in self.all_codes((one, other), 2)]
        self.assertEqual(told, [((0,), (0, 1)), ((0,), (1, 0)), ((1,), (0, 1)), ((1,), (1, 0))])
        told = [(thing[0][1], thing[1][1]) for thing in self.all_codes((other, one), 2)]
        self.assertEqual(told, [((0, 1), (0,)), ((0, 1), (1,)), ((1, 0), (0,)), ((1, 0), (1,))])

    def test_a_number_is_made_of_the_blocks_numbers(self):
        chance = random.Random(61)
        found = 0
        while found < 40:
            text = random_text(chance, 3, 5, 2)
            thing = random_code(chance, text, 4)
            # Blocks that go to no other are texts by themselves.
            if thing is None or any(block[3][0] != "stop" for block in text):
                continue
            found += 1
            number = 0
            for block, coded in zip(text, thing):
                number = number * many((block,), 4) + number_of((coded,), 4)[1]
            self.assertEqual(number_of(thing, 4)[1], number)

    def test_tried_codes_stand_in_the_order_of_the_documents_key(self):
        for text in TINY:
            for k in range(4):
                found = {thing for thing in candidates(text, k) if reads_to(thing, text)}
                told = self.all_codes(text, k)
                self.assertEqual(told, sorted(found, key=lambda thing: order_key(thing, text)))

    def test_all_codes_of_random_texts(self):
        for text, k in small_texts(62, 120):
            expected = codes(text, k)
            self.assertEqual(many(text, k), len(expected))
            self.assertEqual(len(set(expected)), len(expected))
            for number, thing in enumerate(expected):
                self.assertEqual(code_of(text, k, number), thing)
                self.assertEqual(number_of(thing, k), (plain(text), number))
            self.assertEqual(expected, sorted(expected, key=lambda thing: order_key(thing, text)))

    def test_the_order_is_the_same_whatever_k(self):
        chance = random.Random(63)
        for text, k in small_texts(64, 60):
            expected = codes(text, k)
            some = sorted(chance.sample(range(len(expected)), min(6, len(expected))))
            for more in (k + 1, k + 3, 12, 13):
                told = [number_of(expected[number], more)[1] for number in some]
                self.assertEqual(told, sorted(set(told)))


class Large(unittest.TestCase):
    """Texts that have too many codes to list them."""

    def texts(self, seed, count):
        chance = random.Random(seed)
        while count > 0:
            text = random_text(chance, chance.randint(1, 6), 14, 3)
            k = max(least(text), chance.randint(0, 12))
            if k <= 12:
                count -= 1
                yield chance, text, k

    def test_numbers_there_and_back(self):
        for chance, text, k in self.texts(65, 25):
            count = many(text, k)
            for number in (0, count - 1, chance.randrange(count), chance.randrange(count)):
                thing = code_of(text, k, number)
                self.assertIs(is_code(thing, k), True)
                self.assertEqual(read(thing), plain(text))
                self.assertEqual(number_of(thing, k), (plain(text), number))

    def test_codes_there_and_back(self):
        for chance, text, k in self.texts(66, 25):
            thing = random_code(chance, text, k)
            if thing is not None:
                told, number = number_of(thing, k)
                self.assertEqual(told, plain(text))
                self.assertEqual(code_of(text, k, number), thing)

    def test_neighbours_differ_and_stand_in_order(self):
        for chance, text, k in self.texts(67, 10):
            count = many(text, k)
            start = chance.randrange(count)
            told = [code_of(text, k, number) for number in range(start, min(start + 8, count))]
            keys = [order_key(thing, text) for thing in told]
            self.assertEqual(keys, sorted(keys))
            self.assertEqual(len(set(told)), len(told))

    def test_the_largest_text(self):
        rows = tuple(("num", "m" + sign, at) for at, sign in enumerate("abcdefghijklmn"))
        finish = ("stop", ("ma", "mb", "mc", "md", "me", "mf"))
        text = tuple((name, number_of_values(6), rows, finish) for name in "abcdef")
        count = many(text, 12)
        for number in (0, count // 3, count - 1):
            self.assertEqual(number_of(code_of(text, 12, number), 12)[1], number)

    def test_beyond_twelve_registers(self):
        for k in (13, 20, 40):
            count = many(FULL, k)
            for number in (0, count // 7, count - 1):
                thing = code_of(FULL, k, number)
                self.assertIs(is_code(thing, k), True)
                self.assertEqual(number_of(thing, k), (plain(FULL), number))
        thing = code_of(FULL, 40, many(FULL, 40) - 1)
        self.assertEqual(thing[0][1], (39, 38))


class NoNumbers(unittest.TestCase):
    def refused(self, text, k, number):
        error = refusal(NoNumber, code_of, text, k, number)
        self.assertEqual(error.count, many(text, k))
        self.assertIs(type(error.count), int)

    def test_the_last_number_and_the_count(self):
        for text, k in ((FULL, 3), (FULL, 12), (NOTHING, 0), (TINY[0], 2)):
            count = many(text, k)
            self.assertEqual(number_of(code_of(text, k, count - 1), k)[1], count - 1)
            for number in (count, count + 1, 10 ** 299, -1, -count):
                self.refused(text, k, number)

    def test_things_that_are_no_numbers(self):
        for thing in THINGS:
            if type(thing) is not int:
                self.refused(FULL, 4, thing)
                self.refused(NOTHING, 0, thing)

    def test_truths(self):
        self.refused(FULL, 4, True)
        self.refused(FULL, 4, False)
        self.refused(NOTHING, 0, False)

    def test_a_count_of_zero(self):
        for text, k in ((FULL, 2), (FULL, 0), (one_block([]), 1), (one_block([("num", "n", 1)], ()), 0)):
            for thing in (0, 1, -1, None, False):
                self.refused(text, k, thing)
                self.assertEqual(refusal(NoNumber, code_of, text, k, thing).count, 0)


class Refused(unittest.TestCase):
    """Of a code the refusals of reading."""

    def test_empty_and_twin(self):
        error = refusal(Empty, number_of, code([("out", 0), ("out", 5)]), 6)
        self.assertEqual((error.block, error.row), (0, 1))
        error = refusal(Empty, number_of, code([("out", 0)], finish=("stop", (2,))), 6)
        self.assertEqual((error.block, error.row), (0, 1))
        error = refusal(Twin, number_of, (code_block(), code_block([("num", 0, 5), ("num", 1, 5)], name="c")), 6)
        self.assertEqual((error.block, error.row), (1, 1))

    def test_the_first_of_several(self):
        error = refusal(Twin, number_of, code([("num", 0, 5), ("num", 1, 5), ("out", 9)]), 12)
        self.assertEqual((error.block, error.row), (0, 1))
        error = refusal(Empty, number_of, code([("num", 0, 5), ("out", 9), ("num", 1, 5)]), 12)
        self.assertEqual((error.block, error.row), (0, 1))


class Handed(unittest.TestCase):
    def test_kinds(self):
        told = number_of(CODE, 4)
        self.assertIs(type(told), tuple)
        self.assertEqual([type(part) for part in told], [tuple, int])
        self.assertEqual(code_of(FULL, 4, told[1]), CODE)

    def test_what_is_handed_in_stays(self):
        for text, k in small_texts(68, 20):
            before = copy.deepcopy(text)
            thing = code_of(text, k, 0)
            same = copy.deepcopy(thing)
            number_of(thing, k)
            self.assertEqual((text, thing), (before, same))
        thing = [0]
        refusal(NoNumber, code_of, FULL, 4, thing)
        self.assertEqual(thing, [0])

    def test_texts_that_are_one_have_the_same_codes(self):
        chance = random.Random(69)
        for text, k in small_texts(70, 40):
            other = disguised(chance, text)
            self.assertIs(are_one(text, other), True)
            for number in {0, many(text, k) - 1, chance.randrange(many(text, k))}:
                self.assertEqual(code_of(other, k, number), code_of(text, k, number))


if __name__ == "__main__":
    unittest.main()
