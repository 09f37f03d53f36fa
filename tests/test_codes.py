import copy
import random
import unittest

from codelots.codes import is_code, run_code
from codelots.reading import read
from codelots.runs import run
from tests.samples import CODE, FULL, code, code_block, number_of_values, one_block, random_code, random_text

EDGES = (0, 1, 2, 1000001, 1000002)

WRONG = [
    None, True, False, 0, 1, -1, 3, 10 ** 299, -10 ** 299, "", "a", "stop", "num", "0", "A", "a b", "\n", "~", (), [],
    {}, (None,), [()], {"a": 1}, {0: 0}, {(): ()}, ((),), ("a",), ("a", "b"), ["a"], ((((),),),), [[[[]]]], ({},),
    ("num", 0, 1), ("out", 0), ("go", "b", ()), ("write", "c", 0), (1, 2, 3, 4), ("b", (), (), ("stop",)),
    ("b", (), (), ("stop", ())), (("b", (), (), ("stop", ())), None), ("stop", ()), (([], (), (), ("stop", ())),),
]


def replaced(thing, path, part):
    """The thing with another part at the place to which the indexes of the path lead."""
    if not path:
        return part
    return thing[:path[0]] + (replaced(thing[path[0]], path[1:], part),) + thing[path[0] + 1:]


def paths(thing, path=()):
    """All places within tuples."""
    yield path
    if isinstance(thing, tuple):
        for at, part in enumerate(thing):
            yield from paths(part, path + (at,))


def part_at(thing, path):
    for at in path:
        thing = thing[at]
    return thing


class Ordinary(unittest.TestCase):
    def test_codes(self):
        for thing in (
            CODE,
            code(),
            code(places=()),
            code([("add", 0, 0, 0), ("add", 0, 0, 0), ("write", "x", 0), ("read", 0, "x")]),
            code(finish=("go", "b", (1, 1))),
            code(finish=("when", 0, "b", (1, 1), "b", (0, 1))),
            code([("out", 3)], places=()),
        ):
            self.assertIs(is_code(thing, 4), True, thing)

    def test_codes_that_are_not_read_are_codes(self):
        empty = code([("out", 2), ("add", 3, 2, 2)], finish=("stop", (2,)))
        twins = code([("num", 0, 5), ("num", 1, 5), ("read", 0, "c"), ("read", 0, "c")])
        for thing in (empty, twins):
            self.assertIs(is_code(thing, 4), True, thing)

    def test_random_codes(self):
        chance = random.Random(21)
        for _ in range(200):
            k = chance.randint(0, 12)
            made = random_code(chance, random_text(chance, chance.randint(1, 6), 14, 3), k)
            if made is not None:
                self.assertIs(is_code(made, k), True, made)

    def test_texts_are_no_codes(self):
        for text in (FULL, one_block([]), one_block([("num", "n", 0)], ())):
            self.assertIs(is_code(text, 12), False)
        # One without values is both.
        self.assertIs(is_code(one_block([], ()), 0), True)


class Registers(unittest.TestCase):
    def places(self, thing):
        """Codes that each have the thing at one of the places where a register stands."""
        return [
            code(places=(0, thing)),
            code([("num", thing, 0)]),
            code([("add", thing, 0, 1)]),
            code([("less", 0, thing, 1)]),
            code([("times", 0, 1, thing)]),
            code([("min", 0, 1, thing)]),
            code([("read", thing, "c")]),
            code([("write", "c", thing)]),
            code([("out", thing)]),
            code(finish=("stop", (thing,))),
            code(finish=("go", "b", (0, thing))),
            code(finish=("when", thing, "b", (0, 1), "b", (0, 1))),
            code(finish=("when", 0, "b", (0, thing), "b", (0, 1))),
            code(finish=("when", 0, "b", (0, 1), "b", (thing, 1))),
        ]

    def test_registers_for_each_count(self):
        for k in range(2, 13):
            for place in (2, 3, 5, k - 1, k, k + 1, 12, 13, 10 ** 299):
                for thing in self.places(place):
                    self.assertIs(is_code(thing, k), place < k, (thing, k))

    def test_fewer_and_more_registers(self):
        for k in range(13):
            self.assertIs(is_code(CODE, k), k >= 4)
            self.assertIs(is_code(code(), k), k >= 2)
            self.assertIs(is_code(code([("num", 0, 0)], places=()), k), k >= 1)
            self.assertIs(is_code(code(places=()), k), True)
            self.assertIs(is_code(code(places=(11,)), k), k == 12)

    def test_no_registers(self):
        for wrong in (-1, -10 ** 299, True, False, None, "a", "0", "", (), (1,), [1], {}, {1: 1}):
            for thing in self.places(wrong):
                self.assertIs(is_code(thing, 12), False, thing)

    def test_registers_of_a_map(self):
        for count in range(10):
            self.assertIs(is_code(code(places=range(count)), 12), count <= 6, count)
        self.assertIs(is_code(code(places=(5, 0, 11, 3)), 12), True)
        for places in ((0, 0), (0, 1, 0), (3, 4, 5, 4)):
            self.assertIs(is_code(code(places=places), 12), False, places)

    def test_blocks_have_maps_of_their_own(self):
        self.assertIs(is_code((code_block(), code_block(name="c")), 2), True)


class Counts(unittest.TestCase):
    def test_rows(self):
        for count in range(20):
            self.assertIs(is_code(code([("out", 0)] * count), 2), count <= 14, count)

    def test_blocks(self):
        names = number_of_values(20)
        for count in (0, 1, 2, 5, 6, 7, 8, 20):
            thing = tuple(code_block(name=name) for name in names[:count])
            self.assertIs(is_code(thing, 2), 1 <= count <= 6, count)

    def test_values_of_finishes(self):
        for given in range(10):
            self.assertIs(is_code(code(finish=("stop", (0,) * given)), 2), given <= 6)
            for many in range(7):
                args = (1,) * given
                own = tuple(range(many))
                for finish in (
                    ("go", "b", args), ("when", 0, "b", args, "b", own), ("when", 0, "b", own, "b", args),
                ):
                    self.assertIs(is_code(code(places=own, finish=finish), 6), given == many, finish)

    def test_numbers(self):
        for number in EDGES:
            self.assertIs(is_code(code([("num", 0, number)]), 2), True, number)
        for number in (-1, 1000003, 10 ** 299, True, False, None, "1", (1,)):
            self.assertIs(is_code(code([("num", 0, number)]), 2), False, number)


class Names(unittest.TestCase):
    def test_blocks_of_one_name(self):
        self.assertIs(is_code((code_block(), code_block()), 2), False)
        self.assertIs(is_code((code_block(), code_block(name="c"), code_block()), 2), False)

    def test_wrong_names(self):
        for name in ("", "A", "abcdefghi", "a b", "b\n", 0, None, True, (), [], ["b"]):
            self.assertIs(is_code((code_block(name=name),), 2), False)
            self.assertIs(is_code(code([("read", 0, name)]), 2), False)
            self.assertIs(is_code(code([("write", name, 0)]), 2), False)
            self.assertIs(is_code(code(finish=("go", name, (0, 1))), 2), False)

    def test_ways_to_blocks_that_are_not_there(self):
        for finish in (
            ("go", "c", (0, 1)), ("when", 0, "c", (0, 1), "b", (0, 1)), ("when", 0, "b", (0, 1), "c", (0, 1)),
        ):
            self.assertIs(is_code(code(finish=finish), 2), False)
            self.assertIs(is_code(code(finish=finish) + (code_block(name="c"),), 2), True)
            self.assertIs(is_code(code(finish=finish) + (code_block(name="c", places=(0,)),), 2), False)
            self.assertIs(is_code(code(finish=finish) + (code_block(name="c", places=(0, 1, 2)),), 3), False)


class Anything(unittest.TestCase):
    def test_other_things(self):
        for thing in WRONG:
            for k in (0, 1, 3, 12):
                self.assertIs(is_code(thing, k), False, thing)

    def test_a_code_with_something_else_in_a_place(self):
        for path in paths(CODE):
            before = part_at(CODE, path)
            for thing in WRONG:
                told = is_code(replaced(CODE, path, thing), 4)
                self.assertIs(type(told), bool)
                if type(thing) is not type(before):
                    self.assertIs(told, False, (path, thing))

    def test_lists_in_the_place_of_tuples(self):
        for path in paths(CODE):
            part = part_at(CODE, path)
            if isinstance(part, tuple):
                self.assertIs(is_code(replaced(CODE, path, list(part)), 4), False, path)

    def test_a_part_less_or_more(self):
        for path in paths(CODE):
            part = part_at(CODE, path)
            if isinstance(part, tuple):
                for thing in (part[:-1], part + (None,), part + ((),), part + part[-1:]):
                    self.assertIs(type(is_code(replaced(CODE, path, thing), 4)), bool)
                self.assertIs(is_code(replaced(CODE, path, part + (None,)), 4), False, path)

    def test_words(self):
        for word in ("", "add ", "nun", "go", "stop", "adds", None, 1, (), [], ["add"], {}):
            self.assertIs(is_code(code([(word, 0, 0, 1)]), 2), False)
            self.assertIs(is_code(code([(word, 0)]), 2), False)
        for word in ("", "halt", "add", "out", None, 1, (), [], ["go"], {}):
            self.assertIs(is_code(code(finish=(word, ())), 2), False)
            self.assertIs(is_code(code(finish=(word, "b", (0, 1))), 2), False)

    def test_large_and_deep_things(self):
        deep = ()
        for _ in range(18):
            deep = (deep, [deep]) if len(repr(deep)) < 1000 else (deep,)
        for thing in (
            deep, (0,) * 19999, [0] * 19999, tuple([()] * 19999), code([("out", 0)] * 3000), code(places=range(19000)),
            "b" * 20000, code(finish=("stop", (0,) * 19000)), {n: n for n in range(9000)},
        ):
            self.assertIs(is_code(thing, 12), False)
            for path in ((0, 1), (0, 2), (0, 2, 0), (0, 3)):
                self.assertIs(is_code(replaced(CODE, path, thing), 4), False)

    def test_the_thing_stays(self):
        for thing in WRONG + [CODE]:
            before = copy.deepcopy(thing)
            is_code(thing, 4)
            self.assertEqual(thing, before)


class Runs(unittest.TestCase):
    def test_a_code(self):
        self.assertEqual(run_code(CODE, (2, 5), cells={"c": 8}), ([8, 7, 7, 0], {"c": 0}, ("stop", (7,))))
        self.assertEqual(run_code(CODE, (2, 5), cells={"c": 8}, most=1), ([8, 7], {"c": 7}, ("on", "main", (7, 7))))
        self.assertEqual(run_code(CODE, (2, 5), cells={"c": 8}, most=0), ([], {"c": 8}, ("on", "main", (2, 5))))

    def test_registers_put_more_than_once(self):
        rows = [("num", 2, 5), ("out", 2), ("add", 2, 2, 0), ("out", 2), ("read", 2, "c"), ("out", 2)]
        told = run_code(code(rows, (1, 0), ("stop", (2, 1))), (3, 4), cells={"c": 6})
        self.assertEqual(told, ([5, 9, 6], {"c": 6}, ("stop", (6, 3))))

    def test_rows_that_put_one_of_their_ends(self):
        for word, made in (
            ("add", (14, 18, 36)), ("less", (6, 1000001, 0)), ("times", (40, 160, 25600)), ("min", (4, 4, 4)),
        ):
            rows = [(word, 0, 0, 1), (word, 1, 1, 0), (word, 0, 1, 1)]
            for count, place in ((1, 0), (2, 1), (3, 0)):
                told = run_code(code(rows[:count], finish=("stop", (place,))), (10, 4))
                self.assertEqual(told, ([], {}, ("stop", made[count - 1:count])))

    def test_ways_that_exchange_registers(self):
        swap = code([("out", 0)], finish=("go", "b", (1, 0)))
        self.assertEqual(run_code(swap, (1, 2), most=3), ([1, 2, 1], {}, ("on", "b", (2, 1))))
        turn = code([("out", 4)], (4, 0, 2), ("go", "b", (0, 2, 4)))
        self.assertEqual(run_code(turn, (1, 2, 3), most=4), ([1, 2, 3, 1], {}, ("on", "b", (2, 3, 1))))
        led = (
            code_block(places=(0, 1), finish=("when", 1, "c", (1, 0, 1), "b", (1, 0))),
            code_block(places=(1, 2, 0), finish=("stop", (0, 1, 2)), name="c"),
        )
        self.assertEqual(run_code(led, (5, 6))[2], ("stop", (6, 6, 5)))
        self.assertEqual(run_code(led, (5, 0))[2], ("stop", (5, 5, 0)))

    def test_registers_are_emptied_by_a_way(self):
        text = (
            code_block([("num", 3, 9), ("num", 2, 8)], (0,), ("go", "c", (3,))),
            code_block([("out", 2), ("read", 3, "d"), ("out", 3)], (2,), ("stop", (2,)), "c"),
        )
        self.assertEqual(run_code(text, (1,)), ([9, 0], {}, ("stop", (9,))))
        self.assertEqual(read(text)[1][1], ("a",))

    def test_cells_and_most(self):
        loop = (
            code_block([("read", 0, "c"), ("num", 1, 1), ("add", 0, 1, 0), ("write", "c", 0)], (), ("go", "b", ())),
        )
        self.assertEqual(run_code(loop, ()), ([], {"c": 500}, ("on", "b", ())))
        self.assertEqual(run_code(loop, (), cells=None, most=3), ([], {"c": 3}, ("on", "b", ())))
        self.assertEqual(run_code(loop, (), cells={}, most=1), ([], {"c": 1}, ("on", "b", ())))
        self.assertEqual(run_code(loop, (), most=0), ([], {}, ("on", "b", ())))
        cells = {"c": 1000001, "x": 4}
        self.assertEqual(run_code(loop, (), cells=cells, most=2), ([], {"c": 0, "x": 4}, ("on", "b", ())))
        self.assertEqual(cells, {"c": 1000001, "x": 4})

    def test_what_is_told_is_new(self):
        cells = {"c": 8}
        one = run_code(CODE, (2, 5), cells=cells)
        self.assertEqual([type(part) for part in one], [list, dict, tuple])
        one[0].append(1)
        one[1]["c"] = 3
        self.assertEqual(run_code(CODE, (2, 5), cells=cells), ([8, 7, 7, 0], {"c": 0}, ("stop", (7,))))
        self.assertEqual(cells, {"c": 8})

    def test_arguments_behind_the_star_go_by_name_alone(self):
        with self.assertRaises(TypeError):
            run_code(CODE, (1, 1), {})


class Together(unittest.TestCase):
    """Codes of random texts do what the texts do, block by block."""

    def test_a_code_tells_what_its_text_tells(self):
        chance = random.Random(22)
        found = 0
        while found < 250:
            text = random_text(chance, chance.randint(1, 5), 12, 3)
            made = random_code(chance, text, chance.randint(2, 12))
            if made is None:
                continue
            found += 1
            inputs = tuple(chance.choice(EDGES + (7, 500000)) for _ in text[0][1])
            cells = {cell: chance.choice(EDGES) for cell in "cde" if chance.random() < 0.5}
            before = copy.deepcopy((made, inputs, cells))
            reads_to = read(made)
            for most in (0, 1, 2, 3, 4, 5, 10, 40):
                told = run_code(made, inputs, cells=cells, most=most)
                self.assertEqual(told, run(text, inputs, cells=cells, most=most), made)
                self.assertEqual(told, run(reads_to, inputs, cells=cells, most=most), made)
            self.assertEqual(run_code(made, inputs, cells=cells), run(text, inputs, cells=cells))
            self.assertEqual((made, inputs, cells), before)


if __name__ == "__main__":
    unittest.main()
