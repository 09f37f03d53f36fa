import itertools
import random
import unittest

from codelots.plain import are_one, first_unlike, plain
from codelots.texts import is_text
from tests.samples import EVEN, FULL, cell_of, disguised, number_of_values, one_block, random_text

PLAIN_FULL = (
    ("main", ("a", "b"), (
        ("num", "c", 7),
        ("add", "d", "a", "b"),
        ("less", "e", "b", "a"),
        ("times", "f", "d", "e"),
        ("min", "g", "c", "f"),
        ("read", "h", "c"),
        ("write", "c", "g"),
        ("read", "i", "c"),
        ("out", "h"),
        ("out", "i"),
    ), ("when", "g", "main", ("i", "i"), "end", ("h",))),
    ("end", ("a",), (), ("stop", ("a",))),
)


def plain_rows(rows, takes=("x", "y")):
    """The rows of the plain form of a text of one block."""
    return plain(one_block(rows, takes))[0][2]


def changed(text, block, place, part):
    """The text with another part of one of its blocks."""
    changed_block = text[block][:place] + (part,) + text[block][place + 1:]
    return text[:block] + (changed_block,) + text[block + 1:]


class Forms(unittest.TestCase):
    def test_every_word(self):
        self.assertEqual(plain(FULL), PLAIN_FULL)

    def test_other_order_and_names(self):
        text = (
            ("main", ("take", "ab"), (
                ("read", "z", "c"),
                ("less", "b", "ab", "take"),
                ("out", "z"),
                ("add", "a", "take", "ab"),
                ("times", "zz", "b", "a"),
                ("num", "longest", 7),
                ("min", "q", "longest", "zz"),
                ("write", "c", "q"),
                ("read", "c", "c"),
                ("out", "c"),
            ), ("when", "q", "main", ("c", "c"), "end", ("z",))),
            ("end", ("c",), (), ("stop", ("c",))),
        )
        self.assertEqual(plain(text), PLAIN_FULL)

    def test_blocks_without_rows(self):
        self.assertEqual(plain((("b", (), (), ("stop", ())),)), (("b", (), (), ("stop", ())),))
        text = one_block([], ("z", "y"), ("when", "y", "b", ("y", "z"), "b", ("z", "z")))
        self.assertEqual(plain(text), one_block([], ("a", "b"), ("when", "b", "b", ("b", "a"), "b", ("a", "a"))))

    def test_blocks_keep_their_places_and_names(self):
        text = (("z", (), (), ("go", "a", ())), ("a", (), (), ("stop", ())), ("m", (), (), ("go", "z", ())))
        self.assertEqual(plain(text), text)

    def test_takes_keep_their_order(self):
        for count in range(7):
            names = number_of_values(count)
            told = plain(one_block([], tuple(reversed(names)), ("stop", names)))
            letters = tuple("abcdef"[:count])
            self.assertEqual(told, one_block([], letters, ("stop", tuple(reversed(letters)))))

    def test_each_block_begins_with_letter_a(self):
        rows = (("num", "v", 1),)
        text = (("p", (), rows, ("stop", ("v",))), ("q", ("w",), rows, ("go", "p", ())))
        told = (
            ("p", (), (("num", "a", 1),), ("stop", ("a",))),
            ("q", ("a",), (("num", "b", 1),), ("go", "p", ())),
        )
        self.assertEqual(plain(text), told)

    def test_every_finish(self):
        rows = (("num", "v", 1),)
        for finish, told in (
            (("stop", ("v", "y", "x", "v")), ("stop", ("c", "b", "a", "c"))),
            (("stop", ()), ("stop", ())),
            (("go", "b", ("v", "x")), ("go", "b", ("c", "a"))),
            (("when", "v", "b", ("y", "v"), "b", ("x", "y")), ("when", "c", "b", ("b", "c"), "b", ("a", "b"))),
        ):
            self.assertEqual(plain(one_block(rows, finish=finish))[0][3], told)

    def test_twenty_letters(self):
        takes = number_of_values(6)
        rows = [("num", "n" + "abcdefghijklmn"[k], 1000 - k) for k in range(14)]
        told = plain(one_block(rows, takes, ("stop", ("na", "nn", "va"))))
        self.assertEqual(told[0][1], tuple("abcdef"))
        self.assertEqual([row[1] for row in told[0][2]], list("ghijklmnopqrst"))
        self.assertEqual([row[2] for row in told[0][2]], list(range(987, 1001)))
        self.assertEqual(told[0][3], ("stop", ("t", "g", "a")))


class Order(unittest.TestCase):
    def test_words_in_their_places(self):
        rows = [
            ("num", "n", 9), ("add", "s", "x", "y"), ("less", "l", "x", "y"), ("times", "t", "x", "y"),
            ("min", "m", "x", "y"), ("read", "r", "c"), ("write", "d", "x"), ("out", "x"),
        ]
        words = [row[0] for row in rows]
        chance = random.Random(6)
        for _ in range(300):
            order = chance.sample(rows, len(rows))
            self.assertEqual([row[0] for row in plain_rows(order)], words)

    def test_numbers(self):
        told = plain_rows([("num", "a", 10), ("num", "b", 9), ("num", "c", 1000002), ("num", "d", 0)])
        self.assertEqual(told, (("num", "c", 0), ("num", "d", 9), ("num", "e", 10), ("num", "f", 1000002)))

    def test_ends_of_even_rows(self):
        for word in EVEN:
            rows = [(word, "p", "y", "y"), (word, "q", "y", "x"), (word, "r", "x", "x")]
            told = ((word, "c", "a", "a"), (word, "d", "a", "b"), (word, "e", "b", "b"))
            for order in itertools.permutations(rows):
                self.assertEqual(plain_rows(order), told)

    def test_ends_of_less(self):
        rows = [("less", "p", "y", "y"), ("less", "q", "y", "x"), ("less", "r", "x", "y"), ("less", "s", "x", "x")]
        told = (("less", "c", "a", "a"), ("less", "d", "a", "b"), ("less", "e", "b", "a"), ("less", "f", "b", "b"))
        for order in itertools.permutations(rows):
            self.assertEqual(plain_rows(order), told)

    def test_cells_of_reads(self):
        told = plain_rows([("read", "a", "d"), ("read", "b", "cc"), ("read", "e", "c"), ("read", "f", "a")])
        self.assertEqual(told, (("read", "c", "a"), ("read", "d", "c"), ("read", "e", "cc"), ("read", "f", "d")))

    def test_cells_of_writes_go_ahead_of_their_ends(self):
        told = plain_rows([("write", "d", "x"), ("write", "c", "y"), ("write", "a", "y"), ("write", "b", "x")])
        self.assertEqual(told, (("write", "a", "b"), ("write", "b", "a"), ("write", "c", "b"), ("write", "d", "a")))

    def test_a_made_value_comes_behind_the_takes(self):
        rows = [("num", "n", 5), ("less", "p", "n", "x"), ("less", "q", "y", "n"), ("less", "r", "x", "n")]
        told = plain_rows(rows)
        self.assertEqual(told, (
            ("num", "c", 5), ("less", "d", "a", "c"), ("less", "e", "b", "c"), ("less", "f", "c", "a"),
        ))

    def test_a_row_follows_as_soon_as_it_may(self):
        # The add may follow once the num came, and then goes ahead of the less.
        told = plain_rows([("less", "l", "x", "y"), ("num", "n", 5), ("add", "s", "n", "n"), ("num", "m", 4)])
        self.assertEqual(told, (("num", "c", 4), ("num", "d", 5), ("add", "e", "d", "d"), ("less", "f", "a", "b")))
        told = plain_rows([("times", "t", "x", "y"), ("add", "s", "t", "t"), ("min", "m", "x", "y")])
        self.assertEqual(told, (("times", "c", "a", "b"), ("add", "d", "c", "c"), ("min", "e", "a", "b")))


class Hanging(unittest.TestCase):
    def test_outs_keep_their_order(self):
        rows = (("out", "y"), ("out", "x"), ("out", "y"))
        self.assertEqual(plain_rows(rows), (("out", "b"), ("out", "a"), ("out", "b")))

    def test_an_out_waits_for_all_outs_ahead(self):
        rows = [("read", "r", "c"), ("min", "m", "r", "r"), ("out", "m"), ("out", "x"), ("write", "c", "y")]
        told = (("read", "c", "c"), ("min", "d", "c", "c"), ("write", "c", "b"), ("out", "d"), ("out", "a"))
        self.assertEqual(plain_rows(rows), told)

    def test_writes_of_one_cell_keep_their_order(self):
        rows = (("write", "c", "y"), ("write", "c", "x"))
        self.assertEqual(plain_rows(rows), (("write", "c", "b"), ("write", "c", "a")))

    def test_a_read_behind_a_write_stays_behind(self):
        rows = (("write", "c", "x"), ("read", "r", "c"))
        self.assertEqual(plain_rows(rows), (("write", "c", "a"), ("read", "c", "c")))

    def test_a_write_behind_a_read_stays_behind(self):
        rows = (("read", "r", "c"), ("write", "c", "x"), ("read", "s", "c"))
        self.assertEqual(plain_rows(rows), (("read", "c", "c"), ("write", "c", "a"), ("read", "d", "c")))

    def test_other_cells_are_free(self):
        rows = (("write", "c", "x"), ("read", "r", "d"), ("write", "b", "y"))
        self.assertEqual(plain_rows(rows), (("read", "c", "d"), ("write", "b", "b"), ("write", "c", "a")))

    def test_reads_and_outs_do_not_hang_on_cells_of_a_values_name(self):
        rows = (("write", "x", "y"), ("read", "r", "y"), ("out", "x"), ("num", "n", 1))
        told = (("num", "c", 1), ("read", "d", "y"), ("write", "x", "b"), ("out", "a"))
        self.assertEqual(plain_rows(rows), told)

    def test_a_row_stays_behind_those_that_make_its_ends(self):
        rows = [("write", "c", "x"), ("read", "r", "c"), ("add", "s", "x", "r"), ("add", "t", "s", "r")]
        told = (("write", "c", "a"), ("read", "c", "c"), ("add", "d", "a", "c"), ("add", "e", "c", "d"))
        self.assertEqual(plain_rows(rows), told)


class OfPlainForms(unittest.TestCase):
    def test_the_plain_form_of_a_plain_form_is_the_same(self):
        chance = random.Random(2)
        for text in [FULL] + [random_text(chance, chance.randint(1, 6), 14, 3) for _ in range(200)]:
            told = plain(text)
            self.assertIs(is_text(told), True, text)
            self.assertEqual(plain(told), told)

    def test_the_text_stays_as_it_was(self):
        chance = random.Random(3)
        for _ in range(100):
            text = disguised(chance, random_text(chance, 2, 10))
            before = repr(text)
            plain(text)
            are_one(text, FULL)
            first_unlike(text, FULL)
            self.assertEqual(repr(text), before)

    def test_a_text_and_its_disguises(self):
        chance = random.Random(4)
        for _ in range(300):
            text = random_text(chance, chance.randint(1, 3), 14, 3)
            other = disguised(chance, text)
            self.assertIs(is_text(other), True, other)
            self.assertEqual(plain(text), plain(other))
            self.assertIs(are_one(text, other), True)
            self.assertIsNone(first_unlike(text, other))

    def test_somewhat_longer_texts_have_plain_forms_too(self):
        takes = number_of_values(26)
        rows = [("num", "n" + takes[k], 30 - k) for k in range(26)] + [("less", "d", "nva", "va"), ("less", "e", "vb", "nvz")]
        told = plain(one_block(rows, takes, ("stop", takes)))
        names = told[0][1] + tuple(row[1] for row in told[0][2])
        self.assertEqual(len(set(names)), 54)
        self.assertEqual(list(names), sorted(names))
        self.assertEqual(told[0][2][26][2:], ("b", names[26]))
        self.assertEqual(told[0][2][27][2:], (names[51], "a"))
        self.assertEqual(plain(told), told)


class Ones(unittest.TestCase):
    def apart(self, text, other, place):
        self.assertIs(is_text(text) and is_text(other), True)
        self.assertIs(are_one(text, other), False)
        self.assertIs(are_one(other, text), False)
        self.assertEqual(first_unlike(text, other), place)
        self.assertEqual(first_unlike(other, text), place)
        self.assertIs(type(first_unlike(text, other)), tuple)

    def one(self, text, other):
        self.assertIs(is_text(text) and is_text(other), True)
        self.assertIs(are_one(text, other), True)
        self.assertIsNone(first_unlike(text, other))

    def test_the_same(self):
        self.one(FULL, FULL)
        self.one(FULL, PLAIN_FULL)
        self.one(PLAIN_FULL, FULL)

    def test_other_names_of_values(self):
        rows = [("num", "n", 1), ("less", "m", "x", "n")]
        others = [("num", "x", 1), ("less", "n", "m", "x")]
        self.one(one_block(rows, finish=("stop", ("m", "y"))), one_block(others, ("m", "y"), ("stop", ("n", "y"))))

    def test_another_order(self):
        rows = [("num", "n", 1), ("less", "m", "x", "y"), ("write", "c", "x"), ("read", "r", "d")]
        for order in itertools.permutations(rows):
            self.one(one_block(rows), one_block(order))

    def test_swapped_ends(self):
        for word in EVEN:
            self.one(one_block([(word, "n", "x", "y")]), one_block([(word, "n", "y", "x")]))
        self.apart(one_block([("less", "n", "x", "y")]), one_block([("less", "n", "y", "x")]), (0, 0))

    def test_a_blocks_name(self):
        self.apart((("b", (), (), ("stop", ())),), (("c", (), (), ("stop", ())),), (0, 0))
        rows = (("num", "n", 1), ("out", "n"))
        self.apart((("b", (), rows, ("stop", ())),), (("c", (), rows, ("stop", ())),), (0, 2))
        other = (FULL[0][:3] + (("when", "m", "main", ("q", "q"), "ende", ("r",)),), ("ende",) + FULL[1][1:])
        self.apart(FULL, other, (0, 10))

    def test_the_places_of_blocks(self):
        one, two = ("b", (), (("read", "r", "c"),), ("stop", ())), ("c", (), (), ("stop", ()))
        self.apart((one, two), (two, one), (0, 0))

    def test_takes(self):
        self.apart(one_block([], ("x",)), one_block([], ("x", "y")), (0, 0))
        self.apart(one_block([("out", "x")], ("x",)), one_block([("out", "x")], ("x", "y")), (0, 1))
        self.apart(one_block([("out", "x")]), one_block([("out", "y")]), (0, 0))
        rows = [("write", "c", "x"), ("read", "r", "c"), ("write", "d", "x")]
        self.apart(one_block(rows, ("x",)), one_block(rows, ("x", "y")), (0, 1))

    def test_the_order_of_takes(self):
        rows = [("num", "n", 1), ("less", "m", "x", "y")]
        self.apart(one_block(rows, ("x", "y")), one_block(rows, ("y", "x")), (0, 1))

    def test_finishes(self):
        rows = [("num", "n", 1), ("out", "n")]
        ends = [
            ("stop", ()), ("stop", ("x",)), ("stop", ("y",)), ("stop", ("x", "y")), ("go", "b", ("x", "y")),
            ("go", "b", ("y", "x")), ("go", "b", ("n", "n")), ("when", "n", "b", ("x", "y"), "b", ("y", "x")),
            ("when", "n", "b", ("y", "x"), "b", ("x", "y")), ("when", "x", "b", ("x", "y"), "b", ("y", "x")),
        ]
        for one, other in itertools.combinations(ends, 2):
            self.apart(one_block(rows, finish=one), one_block(rows, finish=other), (0, 2))
            self.apart(one_block([], finish=("stop", ())), one_block([], finish=("stop", ("x",))), (0, 0))

    def test_a_finish_in_the_second_block(self):
        other = changed(FULL, 1, 3, ("stop", ()))
        self.apart(FULL, other, (1, 0))

    def test_rows(self):
        rows = [("num", "n", 1), ("num", "m", 2), ("num", "o", 3)]
        self.apart(one_block(rows), one_block([("num", "n", 0)] + rows[1:]), (0, 0))
        self.apart(one_block(rows), one_block(rows[:1] + [("num", "m", 4)] + rows[2:]), (0, 1))
        self.apart(one_block(rows), one_block(rows[:2] + [("num", "o", 4)]), (0, 2))
        self.apart(one_block(rows), one_block(rows[:2]), (0, 2))
        self.apart(one_block(rows), one_block(rows[1:]), (0, 0))
        self.apart(one_block(rows), one_block([]), (0, 0))
        self.apart(one_block(rows), one_block(rows + [("out", "o")]), (0, 3))

    def test_rows_are_counted_up_to_the_first_unlike_one(self):
        rows = [("num", "n", 1), ("num", "m", 2), ("num", "o", 3)]
        others = [("num", "n", 1), ("num", "m", 1000), ("num", "o", 3)]
        self.apart(one_block(rows), one_block(others), (0, 1))
        # A row less and another finish: still where the rows differ.
        self.apart(one_block(rows), one_block(rows[:2], finish=("stop", ("x",))), (0, 2))

    def test_rows_in_the_order_of_the_plain_form(self):
        rows = [("out", "x"), ("min", "m", "x", "y"), ("num", "n", 5)]
        others = [("out", "y"), ("min", "m", "x", "y"), ("num", "n", 5)]
        self.apart(one_block(rows), one_block(others), (0, 2))

    def test_the_first_block_counts(self):
        text = tuple((name, (), (("num", "n", 1),), ("stop", ())) for name in "abc")
        other = tuple((name, (), (("num", "n", 2),), ("stop", ())) for name in "abc")
        self.apart(text, other, (0, 0))
        self.apart(text, text[:1] + other[1:], (1, 0))
        self.apart(text, text[:2] + other[2:], (2, 0))
        self.apart(text, other[:2], (0, 0))

    def test_another_count_of_blocks(self):
        text = tuple((name, (), (("num", "n", 1),), ("stop", ())) for name in "abcdef")
        for count in range(1, 6):
            self.apart(text, text[:count], (count, 0))

    def test_cells(self):
        self.apart(one_block([("read", "r", "c")]), one_block([("read", "r", "d")]), (0, 0))
        self.apart(one_block([("write", "c", "x")]), one_block([("write", "d", "x")]), (0, 0))

    def test_what_hangs_is_not_reordered(self):
        self.apart(one_block([("out", "x"), ("out", "y")]), one_block([("out", "y"), ("out", "x")]), (0, 0))
        one = [("write", "c", "x"), ("write", "c", "y")]
        self.apart(one_block(one), one_block(one[::-1]), (0, 0))
        one = [("read", "r", "c"), ("write", "c", "x")]
        self.apart(one_block(one), one_block(one[::-1]), (0, 0))


class Pairs(unittest.TestCase):
    """Texts are one just where their rows can be paired: all pairings are tried."""

    def test_small_texts(self):
        chance = random.Random(5)
        counts = {True: 0, False: 0}
        for _ in range(1500):
            text = random_text(chance, 1, 4, 2, "c", 1)
            other = random_text(chance, 1, len(text[0][2]), 2, "c", 1)
            if chance.random() < 0.4:
                other = disguised(chance, text)
            expected = paired(text[0], other[0])
            counts[expected] += 1
            self.assertIs(are_one(text, other), expected, (text, other))
            self.assertIs(first_unlike(text, other) is None, expected)
        self.assertGreater(min(counts.values()), 200)


def paired(block, other):
    if block[0] != other[0] or len(block[1]) != len(other[1]) or len(block[2]) != len(other[2]):
        return False
    orders = itertools.permutations(range(len(block[2])))
    return any(is_paired(block, other, order) for order in orders)


def is_paired(block, other, order):
    rows, others = block[2], other[2]
    led = dict(zip(block[1], other[1]))
    for at, to in enumerate(order):
        if rows[at][0] != others[to][0]:
            return False
        if rows[at][0] not in ("write", "out"):
            led[rows[at][1]] = others[to][1]
    for at, to in enumerate(order):
        if not same_row(rows[at], others[to], led):
            return False
        for k in range(at):
            if touching(rows[k], rows[at]) and order[k] > to:
                return False
    return same_finish(block[3], other[3], led)


def touching(row, other):
    if row[0] == other[0] == "out":
        return True
    return cell_of(row) is not None and cell_of(row) == cell_of(other) and (row[0], other[0]) != ("read", "read")


def same_row(row, other, led):
    if row[0] in ("num", "read"):
        return row[2] == other[2]
    if row[0] == "write":
        return row[1] == other[1] and led[row[2]] == other[2]
    if row[0] == "out":
        return led[row[1]] == other[1]
    pair = (led[row[2]], led[row[3]])
    return pair == other[2:] or row[0] in EVEN and pair[::-1] == other[2:]


def same_finish(finish, other, led):
    if finish[0] != other[0]:
        return False
    if finish[0] == "stop":
        return tuple(led[value] for value in finish[1]) == other[1]
    if finish[0] == "go":
        return finish[1] == other[1] and tuple(led[value] for value in finish[2]) == other[2]
    return (
        led[finish[1]] == other[1] and finish[2] == other[2] and tuple(led[value] for value in finish[3]) == other[3]
        and finish[4] == other[4] and tuple(led[value] for value in finish[5]) == other[5]
    )


if __name__ == "__main__":
    unittest.main()
