"""The promise over all codes of a text, by random codes and texts."""

import random
import unittest

from codelots.bars import bar, is_bar
from codelots.codes import is_code, run_code
from codelots.counts import least, many, polynomial
from codelots.errors import Empty, Twin
from codelots.numbers import code_of, number_of
from codelots.plain import plain
from codelots.reading import read
from codelots.runs import run
from tests import test_reading
from tests.oracle import TINY, candidates, reads_to
from tests.samples import random_text


class Promise(unittest.TestCase):
    def texts(self, seed, count, blocks=3, rows=14):
        chance = random.Random(seed)
        for _ in range(count):
            yield chance, random_text(chance, chance.randint(1, blocks), chance.randint(0, rows), 3)

    def test_whatever_can_be_read_has_a_number_and_that_numbers_code_is_it(self):
        chance = random.Random(121)
        found = 0
        while found < 300:
            thing = tuple(test_reading.wild_block(chance, name) for name in "ab"[:chance.randint(1, 2)])
            try:
                text = read(thing)
            except (Empty, Twin):
                continue
            found += 1
            for k in (4, 5, 12):
                self.assertIs(is_code(thing, k), True)
                told, number = number_of(thing, k)
                self.assertEqual(told, text)
                self.assertLess(-1, number)
                self.assertLess(number, many(text, k))
                self.assertEqual(code_of(text, k, number), thing)

    def test_all_numbers_of_small_texts_tell_just_the_codes_that_can_be_tried(self):
        for text in TINY:
            for k in range(4):
                told = [code_of(text, k, number) for number in range(many(text, k))]
                self.assertEqual(len(set(told)), len(told))
                self.assertEqual(set(told), {thing for thing in candidates(text, k) if reads_to(thing, text)})
                self.assertEqual([number_of(thing, k) for thing in told], [(plain(text), at) for at in range(len(told))])

    def test_a_code_does_what_the_text_does(self):
        for chance, text in self.texts(122, 60, 4):
            k = min(12, max(least(text), chance.randint(0, 12)))
            if not many(text, k):
                continue
            for _ in range(3):
                thing = code_of(text, k, chance.randrange(many(text, k)))
                inputs = tuple(chance.choice((0, 1, 2, 1000002)) for _ in text[0][1])
                cells = {"c": chance.randint(0, 3)}
                for most in (0, 1, 2, 3, 30):
                    told = run_code(thing, inputs, cells=cells, most=most)
                    self.assertEqual(told, run(plain(text), inputs, cells=cells, most=most))
                    self.assertEqual(told, run(text, inputs, cells=cells, most=most))

    def test_one_polynomial_and_a_paper_just_where_there_is_no_code(self):
        for _, text in self.texts(123, 50):
            told = polynomial(text)
            for k in range(16):
                count = many(text, k)
                self.assertEqual(sum(number * k ** power for power, number in enumerate(told)), count)
                self.assertEqual(count > 0, k >= least(text))
                paper = bar(text, k)
                self.assertEqual(paper is None, count > 0)
                if paper is not None:
                    self.assertIs(is_bar(text, k, paper), True)
                    # One that holds for k holds for each lesser count.
                    self.assertTrue(all(is_bar(text, less, paper) for less in range(k)))

    def test_the_codes_for_more_registers_hold_those_for_less_in_the_same_order(self):
        for chance, text in self.texts(124, 40, 2, 6):
            k = least(text)
            count = many(text, k)
            some = sorted(chance.sample(range(min(count, 10 ** 6)), min(count, 6)))
            told = [number_of(code_of(text, k, number), k + 2)[1] for number in some]
            self.assertEqual(told, sorted(set(told)))
            self.assertTrue(all(number >= less for number, less in zip(told, some)))


if __name__ == "__main__":
    unittest.main()
