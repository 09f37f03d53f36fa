import copy
import itertools
import random
import unittest

from codelots.counts import least, many
from codelots.errors import Empty, LotError, NoRoom, Twin
from codelots.numbers import code_of, number_of
from codelots.plain import plain
from codelots.words import laid, room, room_of, word_at, word_in, word_number
from tests.oracle import words
from tests.samples import CODE, FULL, code, code_block, one_block, random_text

NOTHING = one_block([], ())
TAKES = one_block([])
LETTERS = "abcdefghijklmnopqrstuvwxyz"


def numbers_of_words(length):
    """How many words have that length or a lesser one."""
    return sum(26 ** power for power in range(length + 1))


class Numbers(unittest.TestCase):
    def test_by_length_then_as_sorted(self):
        for number, word in enumerate(itertools.islice(words(), 1 + 26 + 26 ** 2 + 2000)):
            self.assertEqual(word_number(word), number)
            self.assertEqual(word_at(number), word)

    def test_around_each_length(self):
        for length in range(1, 40):
            first = numbers_of_words(length - 1)
            self.assertEqual([word_at(first - 1), word_at(first)], ["z" * (length - 1), "a" * length])
            self.assertEqual([word_number("z" * length), word_number("a" * length)], [numbers_of_words(length) - 1, first])
        self.assertEqual(word_number("az"), 52)
        self.assertEqual(word_number("ba"), 53)


class Room(unittest.TestCase):
    def test_of_counts(self):
        for count, told in (
            (0, -1), (1, 0), (2, 0), (26, 0), (27, 1), (28, 1), (702, 1), (703, 2), (18278, 2), (18279, 3), (18280, 3),
        ):
            self.assertEqual(room_of(count), told)
        for length in range(60):
            count = numbers_of_words(length)
            self.assertEqual([room_of(count - 1), room_of(count), room_of(count + 1)], [length - 1, length, length])

    def test_of_texts(self):
        self.assertEqual([room(NOTHING, k) for k in (0, 3, 12, 13)], [0] * 4)
        # k * (k - 1) codes.
        self.assertEqual([room(TAKES, k) for k in (0, 1, 2, 5, 6, 12, 26, 27, 28)], [-1, -1, 0, 0, 1, 1, 1, 1, 2])
        self.assertEqual(room(FULL, 2), -1)
        for k in range(14):
            count = many(FULL, k)
            told = room(FULL, k)
            self.assertIs(type(told), int)
            self.assertTrue(told == -1 if count == 0 else numbers_of_words(told) <= count < numbers_of_words(told + 1))

    def test_a_count_that_is_just_enough(self):
        text = one_block([("num", "n", 1)], ())
        self.assertEqual([room(text, k) for k in (0, 1, 26, 27, 702, 703)], [-1, 0, 0, 1, 1, 2])
        self.assertEqual(laid(text, 27, "z"), code_of(text, 27, 26))


class Laid(unittest.TestCase):
    def test_the_code_of_the_words_number(self):
        self.assertEqual(laid(NOTHING, 0, ""), NOTHING)
        self.assertEqual(laid(TAKES, 6, ""), code_of(TAKES, 6, 0))
        for at, sign in enumerate(LETTERS):
            self.assertEqual(laid(TAKES, 6, sign), code_of(TAKES, 6, at + 1))
            self.assertEqual(word_in(laid(TAKES, 6, sign), 6), sign)

    def test_the_words_up_to_the_room(self):
        most = room(FULL, 4)
        self.assertEqual(most, 5)
        for word in ("", "a", "z", "aa", "ba", "zz", "hello", "a" * most, "z" * most):
            thing = laid(FULL, 4, word)
            self.assertEqual(number_of(thing, 4), (plain(FULL), word_number(word)))
            self.assertEqual(word_in(thing, 4), word)

    def test_a_longer_word(self):
        for text, k in ((FULL, 4), (FULL, 12), (TAKES, 6), (TAKES, 2), (NOTHING, 0)):
            most = room(text, k)
            for word in ("a" * (most + 1), "z" * (most + 1), "a" * (most + 2), "z" * 500):
                with self.assertRaises(LotError) as caught:
                    laid(text, k, word)
                self.assertIs(type(caught.exception), NoRoom)
                self.assertEqual(caught.exception.room, most)
            laid(text, k, "z" * most)

    def test_a_longer_word_whose_number_is_below_the_count(self):
        # Thirty codes: "ab" is number 28, but not all words of two letters have codes.
        self.assertEqual(many(TAKES, 6), 30)
        with self.assertRaises(NoRoom) as caught:
            laid(TAKES, 6, "ab")
        self.assertEqual(caught.exception.room, 1)
        self.assertEqual(word_in(code_of(TAKES, 6, 28), 6), "ab")

    def test_no_code_at_all(self):
        for text, k in ((FULL, 2), (TAKES, 1), (TAKES, 0), (one_block([("num", "n", 1)], ()), 0)):
            for word in ("", "a"):
                with self.assertRaises(NoRoom) as caught:
                    laid(text, k, word)
                self.assertEqual(caught.exception.room, -1)


class Found(unittest.TestCase):
    def test_all_codes_of_a_text(self):
        for number, word in zip(range(30), words()):
            self.assertEqual(word_in(code_of(TAKES, 6, number), 6), word)
        self.assertEqual(word_in(CODE, 4), word_at(number_of(CODE, 4)[1]))
        self.assertIs(type(word_in(CODE, 4)), str)

    def test_the_last_code_has_a_word(self):
        for k in (3, 4, 12, 13):
            thing = code_of(FULL, k, many(FULL, k) - 1)
            told = word_in(thing, k)
            self.assertEqual(word_number(told), many(FULL, k) - 1)
            self.assertIn(len(told), (room(FULL, k), room(FULL, k) + 1))

    def test_refused_as_reading_is(self):
        for thing, kind, block, row in (
            (code([("out", 0), ("out", 5)]), Empty, 0, 1), (code(finish=("stop", (2,))), Empty, 0, 0),
            ((code_block(), code_block([("num", 0, 5), ("num", 1, 5)], name="c")), Twin, 1, 1),
            (code([("num", 0, 5), ("num", 1, 5), ("out", 9)]), Twin, 0, 1),
        ):
            with self.assertRaises(LotError) as caught:
                word_in(thing, 12)
            self.assertIs(type(caught.exception), kind)
            self.assertEqual((caught.exception.block, caught.exception.row), (block, row))

    def test_random_texts(self):
        chance = random.Random(91)
        for _ in range(30):
            text = random_text(chance, chance.randint(1, 3), chance.randint(0, 12), 3)
            k = max(least(text), chance.randint(0, 12))
            most = room(text, k)
            before = copy.deepcopy(text)
            for length in {0, most, chance.randint(0, most)}:
                word = "".join(chance.choice(LETTERS) for _ in range(length))
                thing = laid(text, k, word)
                self.assertEqual(word_in(thing, k), word)
                self.assertEqual(thing, code_of(text, k, word_number(word)))
            self.assertEqual(text, before)


if __name__ == "__main__":
    unittest.main()
