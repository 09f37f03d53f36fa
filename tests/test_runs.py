import copy
import random
import unittest

from codelots.plain import plain
from codelots.runs import run
from tests.samples import FULL, disguised, number_of_values, one_block, random_text

PRIME = 1000003
EDGES = (0, 1, 2, 1000001, 1000002)

# Counts down from its first take and adds up what it saw.
LOOP = (
    ("loop", ("n", "s"), (
        ("num", "one", 1),
        ("add", "t", "s", "n"),
        ("less", "m", "n", "one"),
        ("out", "n"),
    ), ("when", "m", "loop", ("m", "t"), "end", ("t",))),
    ("end", ("v",), (("write", "sum", "v"),), ("stop", ("v",))),
)

# Goes on for ever, its takes exchanged each time.
ENDLESS = (("b", ("x", "y"), (("out", "x"),), ("go", "b", ("y", "x"))),)


def values_of(rows, inputs, values, cells=None):
    """What a block of some rows stops with."""
    return run(one_block(rows, finish=("stop", values)), inputs, cells=cells)


def next_text(text, name):
    """The text with the block of that name first."""
    return tuple(sorted(text, key=lambda block: block[0] != name))


class Words(unittest.TestCase):
    def made(self, word, one, other):
        outs, cells, end = values_of([(word, "n", "x", "y")], (one, other), ("n",))
        self.assertEqual((outs, cells), ([], {}))
        self.assertEqual(end[0], "stop")
        return end[1][0]

    def test_pairs_of_numbers(self):
        for one in EDGES:
            for other in EDGES:
                self.assertEqual(self.made("add", one, other), (one + other) % PRIME)
                self.assertEqual(self.made("less", one, other), (one - other) % PRIME)
                self.assertEqual(self.made("times", one, other), one * other % PRIME)
                self.assertEqual(self.made("min", one, other), min(one, other))

    def test_remainders_written_out(self):
        self.assertEqual(self.made("add", 1000002, 1), 0)
        self.assertEqual(self.made("add", 1000001, 1), 1000002)
        self.assertEqual(self.made("add", 1000002, 1000002), 1000001)
        self.assertEqual(self.made("less", 0, 1), 1000002)
        self.assertEqual(self.made("less", 0, 1000002), 1)
        self.assertEqual(self.made("less", 1000001, 1000002), 1000002)
        self.assertEqual(self.made("less", 5, 3), 2)
        self.assertEqual(self.made("less", 3, 5), 1000001)
        self.assertEqual(self.made("times", 1000002, 1000002), 1)
        self.assertEqual(self.made("times", 1000002, 2), 1000001)
        self.assertEqual(self.made("times", 1000002, 0), 0)
        self.assertEqual(self.made("min", 1000002, 1000001), 1000001)

    def test_one_value_as_both_ends(self):
        rows = [("add", "a", "x", "x"), ("less", "b", "x", "x"), ("times", "c", "x", "x"), ("min", "d", "x", "x")]
        told = values_of(rows, (1000002, 0), ("a", "b", "c", "d"))
        self.assertEqual(told, ([], {}, ("stop", (1000001, 0, 1, 1000002))))

    def test_num(self):
        for number in EDGES:
            self.assertEqual(values_of([("num", "n", number)], (7, 8), ("n", "x")), ([], {}, ("stop", (number, 7))))

    def test_out(self):
        rows = [("out", "y"), ("num", "n", 1000002), ("out", "n"), ("out", "x"), ("out", "y")]
        self.assertEqual(values_of(rows, (0, 5), ()), ([5, 1000002, 0, 5], {}, ("stop", ())))

    def test_read_and_write(self):
        rows = [
            ("read", "p", "c"), ("write", "c", "x"), ("read", "q", "c"), ("write", "d", "q"), ("write", "c", "y"),
            ("read", "r", "c"), ("read", "s", "d"),
        ]
        told = values_of(rows, (3, 4), ("p", "q", "r", "s"), {"c": 9})
        self.assertEqual(told, ([], {"c": 4, "d": 3}, ("stop", (9, 3, 4, 3))))

    def test_rows_are_done_in_order(self):
        rows = [("out", "x"), ("less", "n", "x", "y"), ("times", "m", "n", "n"), ("out", "m"), ("add", "o", "m", "n")]
        self.assertEqual(values_of(rows, (10, 7), ("o",)), ([10, 9], {}, ("stop", (12,))))

    def test_every_word(self):
        told = run(FULL, (2, 5), cells={"c": 8})
        # s = 7, d = 3, t = 21, m = 7, r = 8, q = 7; then once more from (7, 7): m is 0.
        self.assertEqual(told, ([8, 7, 7, 0], {"c": 0}, ("stop", (7,))))


class Cells(unittest.TestCase):
    rows = [("read", "r", "c"), ("write", "d", "x")]

    def told(self, **cells):
        return run(one_block(self.rows, finish=("stop", ("r",))), (5, 6), **cells)

    def test_left_out_none_and_empty(self):
        for told in (self.told(), self.told(cells=None), self.told(cells={})):
            self.assertEqual(told, ([], {"d": 5}, ("stop", (0,))))

    def test_a_cell_that_is_read_alone_is_told_where_it_was_handed_in(self):
        self.assertEqual(self.told(cells={"c": 0}), ([], {"c": 0, "d": 5}, ("stop", (0,))))
        self.assertEqual(self.told(cells={"c": 1000002}), ([], {"c": 1000002, "d": 5}, ("stop", (1000002,))))

    def test_cells_that_the_text_never_touches(self):
        cells = {"other": 3, "x": 4, "r": 0, "d": 1000002}
        self.assertEqual(self.told(cells=cells), ([], {"other": 3, "x": 4, "r": 0, "d": 5}, ("stop", (0,))))

    def test_cells_go_from_block_to_block(self):
        text = (
            ("p", (), (("num", "n", 4), ("write", "c", "n")), ("go", "q", ())),
            ("q", (), (("read", "n", "c"), ("out", "n"), ("add", "m", "n", "n"), ("write", "c", "m")), ("go", "q", ())),
        )
        self.assertEqual(run(text, (), most=4), ([4, 8, 16], {"c": 32}, ("on", "q", ())))

    def test_each_told_is_new(self):
        cells = {"c": 7}
        one = self.told(cells=cells)
        other = self.told(cells=cells)
        self.assertIsNot(one[0], other[0])
        self.assertIsNot(one[1], other[1])
        self.assertIsNot(one[1], cells)
        one[0].append(1)
        one[1]["c"] = 1
        one[1]["e"] = 1
        self.assertEqual(other, ([], {"c": 7, "d": 5}, ("stop", (7,))))
        self.assertEqual(self.told(cells=cells), other)
        self.assertEqual(cells, {"c": 7})

    def test_what_is_left_out_is_new_each_time(self):
        told = self.told()
        told[0].append(1)
        told[1]["c"] = 9
        self.assertEqual(self.told(), ([], {"d": 5}, ("stop", (0,))))

    def test_nothing_is_written_where_nothing_is_run(self):
        cells = {"d": 1}
        told = self.told(cells=cells, most=0)
        self.assertEqual(told, ([], {"d": 1}, ("on", "b", (5, 6))))
        told[1]["d"] = 2
        self.assertEqual(cells, {"d": 1})


class Ways(unittest.TestCase):
    def test_go(self):
        text = (
            ("p", ("x", "y"), (("less", "z", "x", "y"),), ("go", "q", ("y", "z", "y", "x"))),
            ("q", ("x", "y", "z", "w"), (), ("stop", ("w", "z", "y", "x", "x"))),
        )
        self.assertEqual(run(text, (9, 4)), ([], {}, ("stop", (9, 4, 5, 4, 4))))

    def test_when(self):
        text = (
            ("p", ("x", "y"), (), ("when", "x", "q", ("y",), "r", ("x", "y"))),
            ("q", ("v",), (), ("stop", ("v",))),
            ("r", ("v", "w"), (), ("stop", ("w", "v", "w"))),
        )
        for number in (1, 2, 1000001, 1000002):
            self.assertEqual(run(text, (number, 3)), ([], {}, ("stop", (3,))))
            self.assertEqual(run(text, (number, 3), most=1), ([], {}, ("on", "q", (3,))))
        self.assertEqual(run(text, (0, 3)), ([], {}, ("stop", (3, 0, 3))))
        self.assertEqual(run(text, (0, 3), most=1), ([], {}, ("on", "r", (0, 3))))

    def test_when_with_one_block_twice(self):
        text = (("b", ("x", "y"), (), ("when", "y", "b", ("x", "x"), "b", ("y", "x"))),)
        self.assertEqual(run(text, (5, 1), most=1)[2], ("on", "b", (5, 5)))
        self.assertEqual(run(text, (5, 0), most=1)[2], ("on", "b", (0, 5)))

    def test_when_takes_a_made_value(self):
        text = one_block([("less", "d", "x", "y")], finish=("when", "d", "b", ("d", "d"), "b", ("x", "x")))
        self.assertEqual(run(text, (4, 4), most=1)[2], ("on", "b", (4, 4)))
        self.assertEqual(run(text, (4, 5), most=1)[2], ("on", "b", (1000002, 1000002)))

    def test_stop(self):
        takes = number_of_values(6)
        text = one_block([], takes, ("stop", tuple(reversed(takes))))
        self.assertEqual(run(text, (1, 2, 3, 4, 5, 6)), ([], {}, ("stop", (6, 5, 4, 3, 2, 1))))
        self.assertEqual(run(one_block([], ()), ()), ([], {}, ("stop", ())))

    def test_a_run_begins_at_the_first_block(self):
        text = (("z", (), (), ("stop", ())), ("a", (), (("num", "n", 1), ("out", "n")), ("stop", ())))
        self.assertEqual(run(text, ()), ([], {}, ("stop", ())))
        self.assertEqual(run(text[::-1], ()), ([1], {}, ("stop", ())))

    def test_a_block_that_goes_to_itself(self):
        self.assertEqual(run(LOOP, (4, 0)), ([4, 3, 2, 1], {"sum": 10}, ("stop", (10,))))
        self.assertEqual(run(ENDLESS, (1, 2), most=5), ([1, 2, 1, 2, 1], {}, ("on", "b", (2, 1))))

    def test_values_are_handed_over_all_at_once(self):
        text = (("b", ("x", "y", "z"), (), ("go", "b", ("y", "z", "x"))),)
        for most, numbers in enumerate([(1, 2, 3), (2, 3, 1), (3, 1, 2), (1, 2, 3)]):
            self.assertEqual(run(text, (1, 2, 3), most=most)[2], ("on", "b", numbers))


class Most(unittest.TestCase):
    def test_none(self):
        cells = {"c": 4}
        self.assertEqual(run(LOOP, (4, 5), cells=cells, most=0), ([], {"c": 4}, ("on", "loop", (4, 5))))
        self.assertEqual(run(one_block([]), (1, 2), most=0), ([], {}, ("on", "b", (1, 2))))

    def test_some(self):
        self.assertEqual(run(LOOP, (4, 0), most=1), ([4], {}, ("on", "loop", (3, 4))))
        self.assertEqual(run(LOOP, (4, 0), most=3), ([4, 3, 2], {}, ("on", "loop", (1, 9))))
        self.assertEqual(run(LOOP, (4, 0), most=4), ([4, 3, 2, 1], {}, ("on", "end", (10,))))

    def test_a_stop_just_at_it_and_ahead(self):
        told = ([4, 3, 2, 1], {"sum": 10}, ("stop", (10,)))
        for most in (5, 6, 100, 500):
            self.assertEqual(run(LOOP, (4, 0), most=most), told)
        self.assertEqual(run(one_block([]), (1, 2), most=1), ([], {}, ("stop", ())))

    def test_left_out_it_is_five_hundred(self):
        self.assertEqual(run(ENDLESS, (1, 2)), run(ENDLESS, (1, 2), most=500))
        self.assertEqual(run(ENDLESS, (1, 2))[0], [1, 2] * 250)
        # 499 times round, then the end; and once more.
        self.assertEqual(run(LOOP, (499, 0))[2][0], "stop")
        self.assertEqual(run(LOOP, (500, 0))[2], ("on", "end", (125250,)))
        self.assertEqual(run(LOOP, (501, 0))[2], ("on", "loop", (1, 125750)))

    def test_arguments_behind_the_star_go_by_name_alone(self):
        with self.assertRaises(TypeError):
            run(LOOP, (1, 1), {})
        with self.assertRaises(TypeError):
            run(LOOP, (1, 1), None, 5)


class Kinds(unittest.TestCase):
    def test_kinds_of_what_is_told(self):
        for most in (0, 1, 2, 5):
            told = run(LOOP, (4, 0), most=most)
            self.assertEqual([type(part) for part in told], [list, dict, tuple])
            self.assertIs(type(told), tuple)
            self.assertIs(type(told[2][-1]), tuple)

    def test_what_is_handed_in_stays(self):
        chance = random.Random(11)
        for _ in range(100):
            text = random_text(chance, 3, 10, 3)
            cells = {"c": 1, "z": 2}
            inputs = tuple(range(len(text[0][1])))
            before = copy.deepcopy((text, inputs, cells))
            run(text, inputs, cells=cells, most=20)
            self.assertEqual((text, inputs, cells), before)


class Together(unittest.TestCase):
    """Random texts: their plain forms, and runs in two pieces."""

    def texts(self, seed, count):
        chance = random.Random(seed)
        for _ in range(count):
            text = random_text(chance, chance.randint(1, 5), 12, 3)
            inputs = tuple(chance.choice(EDGES + (7, 500000)) for _ in text[0][1])
            cells = {cell: chance.choice(EDGES) for cell in "cde" if chance.random() < 0.5}
            yield chance, text, inputs, cells

    def test_plain_forms_tell_the_same(self):
        for chance, text, inputs, cells in self.texts(12, 300):
            for other in (plain(text), disguised(chance, text)):
                for most in (0, 1, 2, 3, 10, 40):
                    self.assertEqual(run(other, inputs, cells=cells, most=most),
                                     run(text, inputs, cells=cells, most=most))

    def test_two_pieces_are_as_one_run(self):
        pieces = 0
        for chance, text, inputs, cells in self.texts(13, 300):
            first, rest = chance.randint(0, 6), chance.randint(0, 6)
            outs, behind, end = run(text, inputs, cells=cells, most=first)
            if end[0] == "on":
                pieces += 1
                more, behind, end = run(next_text(text, end[1]), end[2], cells=behind, most=rest)
                outs = outs + more
            self.assertEqual((outs, behind, end), run(text, inputs, cells=cells, most=first + rest))
        self.assertGreater(pieces, 100)


if __name__ == "__main__":
    unittest.main()
