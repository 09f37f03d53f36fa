import copy
import random
import unittest

from codelots.texts import is_name, is_text
from tests.samples import FULL, disguised, number_of_values, one_block, random_text

WRONG = [
    None, True, False, 0, 1, -1, 10 ** 299, "", "a", "stop", "A", "a b", "\n", "~", (), [], {}, (None,), [()],
    {"a": 1}, {(): ()}, ((),), ("a",), ("a", "b"), ["a"], ((((),),),), [[[[]]]], ({},), ("num", "x", 1), ("out", "x"),
    ("go", "b", ()), ("write", "c", "x"), (1, 2, 3, 4), ("b", (), (), ("stop",)),
]


def deep(thing, levels):
    for _ in range(levels):
        thing = (thing,)
    return thing


class Names(unittest.TestCase):
    def test_names(self):
        for name in ("a", "z", "ab", "name", "abcdefg", "abcdefgh", "zzzzzzzz"):
            self.assertIs(is_name(name), True, name)

    def test_lengths_beyond(self):
        for name in ("", "abcdefghi", "a" * 20000):
            self.assertIs(is_name(name), False)

    def test_other_signs(self):
        for sign in "A Z0_~`{-\n\t.":
            for name in (sign, "a" + sign, sign + "a", "a" + sign + "b"):
                self.assertIs(is_name(name), False, repr(name))

    def test_other_kinds(self):
        for thing in WRONG:
            if thing not in ("a", "stop"):
                self.assertIs(is_name(thing), False, thing)


class Ordinary(unittest.TestCase):
    def test_texts(self):
        texts = [
            FULL,
            one_block([]),
            one_block([], takes=()),
            one_block([("num", "n", 3), ("out", "n"), ("out", "n")], takes=()),
            one_block([("write", "x", "x"), ("read", "c", "x"), ("write", "x", "c")]),
            one_block([], finish=("go", "b", ("x", "x"))),
            one_block([], finish=("when", "y", "b", ("x", "y"), "b", ("y", "y"))),
        ]
        for text in texts:
            self.assertIs(is_text(text), True, text)

    def test_random_texts(self):
        chance = random.Random(1)
        for _ in range(300):
            text = random_text(chance)
            self.assertIs(is_text(text), True, text)
            self.assertIs(is_text(disguised(chance, text)), True)

    def test_a_block_may_have_the_name_of_a_value_and_of_a_cell(self):
        text = (("x", ("x",), (("read", "y", "x"),), ("go", "x", ("y",))),)
        self.assertIs(is_text(text), True)

    def test_blocks_have_their_own_values(self):
        text = (
            ("a", ("x",), (("num", "n", 1),), ("go", "b", ("n",))),
            ("b", ("x",), (("num", "n", 1),), ("stop", ("n",))),
        )
        self.assertIs(is_text(text), True)
        lent = (text[0], ("b", ("x",), (), ("stop", ("n",))))
        self.assertIs(is_text(lent), False)


class Numbers(unittest.TestCase):
    def number(self, thing):
        return is_text(one_block([("num", "n", thing)]))

    def test_edges(self):
        for number in (0, 1, 2, 1000001, 1000002):
            self.assertIs(self.number(number), True, number)
        for number in (-1, 1000003, 10 ** 299, -10 ** 299):
            self.assertIs(self.number(number), False, number)

    def test_no_whole_numbers(self):
        for thing in (True, False, None, "", "1", (), (1,), [1], {}, {1: 1}):
            self.assertIs(self.number(thing), False, thing)


class Counts(unittest.TestCase):
    def test_takes(self):
        for count in range(7):
            self.assertIs(is_text(one_block([], takes=number_of_values(count))), True, count)
        for count in (7, 8, 20):
            self.assertIs(is_text(one_block([], takes=number_of_values(count))), False, count)

    def test_rows(self):
        for count in range(15):
            self.assertIs(is_text(one_block([("out", "x")] * count)), True, count)
        for count in (15, 16, 30):
            self.assertIs(is_text(one_block([("out", "x")] * count)), False, count)

    def test_blocks(self):
        names = number_of_values(20)
        for count in (1, 2, 5, 6, 0, 7, 8, 20):
            text = tuple((name, (), (), ("stop", ())) for name in names[:count])
            self.assertIs(is_text(text), 1 <= count <= 6, count)

    def test_values_of_a_stop(self):
        for count in range(10):
            text = one_block([], finish=("stop", ("x",) * count))
            self.assertIs(is_text(text), count <= 6, count)

    def test_values_of_the_other_finishes(self):
        for many in range(7):
            takes = number_of_values(many)
            for given in range(9):
                args = ("n",) * given
                finishes = [
                    ("go", "b", args),
                    ("when", "n", "b", args, "b", takes),
                    ("when", "n", "b", takes, "b", args),
                ]
                for finish in finishes:
                    text = one_block([("num", "n", 1)], takes, finish)
                    self.assertIs(is_text(text), given == many, finish)

    def test_as_many_values_as_the_named_block_takes(self):
        def text(finish):
            return (("a", ("x",), (), finish), ("b", ("x", "y"), (), ("stop", ())))

        for finish in (
            ("go", "a", ("x",)), ("go", "b", ("x", "x")), ("when", "x", "a", ("x",), "b", ("x", "x")),
            ("when", "x", "b", ("x", "x"), "a", ("x",)),
        ):
            self.assertIs(is_text(text(finish)), True, finish)
        for finish in (
            ("go", "b", ("x",)), ("go", "a", ("x", "x")), ("when", "x", "b", ("x",), "a", ("x", "x")),
            ("when", "x", "a", ("x", "x"), "b", ("x",)), ("when", "x", "a", ("x",), "b", ("x",)),
        ):
            self.assertIs(is_text(text(finish)), False, finish)

    def test_blocks_with_seven_takes_are_none_though_the_values_fit(self):
        names = number_of_values(7)
        self.assertIs(is_text(one_block([], names, ("go", "b", names))), False)

    def test_lengths_of_tuples(self):
        block = FULL[1]
        for wrong in (block[:3], block + ((),), block[:2], ()):
            self.assertIs(is_text((FULL[0], wrong)), False)
        for row in FULL[0][2]:
            for wrong in (row[:-1], row + row[-1:], row[:1], ()):
                self.assertIs(is_text(one_block([("num", "n", 1), wrong])), False, wrong)
        for finish in (("stop", ()), ("go", "b", ("x", "y")), ("when", "x", "b", ("x", "y"), "b", ("x", "y"))):
            self.assertIs(is_text(one_block([], finish=finish)), True)
            for wrong in (finish[:-1], finish + finish[-1:], finish[:1], ()):
                self.assertIs(is_text(one_block([], finish=wrong)), False, wrong)


class NamesOfBlocksAndValues(unittest.TestCase):
    def test_blocks_of_one_name(self):
        block = ("b", (), (), ("stop", ()))
        self.assertIs(is_text((block, block)), False)
        self.assertIs(is_text((block, ("c", (), (), ("stop", ())), block)), False)

    def test_a_finish_of_a_block_that_is_not_there(self):
        for finish in (
            ("go", "c", ()), ("go", "c", ("x", "y")), ("when", "x", "c", ("x", "y"), "b", ("x", "y")),
            ("when", "x", "b", ("x", "y"), "c", ("x", "y")),
        ):
            self.assertIs(is_text(one_block([], finish=finish)), False, finish)

    def test_a_finish_may_name_a_block_ahead_or_behind(self):
        text = (("a", (), (), ("go", "b", ())), ("b", (), (), ("go", "a", ())))
        self.assertIs(is_text(text), True)

    def test_takes_twice(self):
        self.assertIs(is_text(one_block([], takes=("x", "x"))), False)
        self.assertIs(is_text(one_block([], takes=("x", "y", "x"))), False)

    def test_made_twice(self):
        self.assertIs(is_text(one_block([("num", "n", 1), ("num", "n", 2)])), False)
        self.assertIs(is_text(one_block([("num", "n", 1), ("read", "n", "c")])), False)
        self.assertIs(is_text(one_block([("read", "n", "c"), ("add", "n", "x", "y")])), False)

    def test_made_and_a_take(self):
        for row in (("num", "x", 1), ("read", "x", "c"), ("add", "x", "x", "y"), ("less", "y", "x", "x")):
            self.assertIs(is_text(one_block([row])), False, row)

    def test_ends_that_no_row_ahead_makes(self):
        for row in (
            ("add", "n", "x", "z"), ("less", "n", "z", "x"), ("times", "n", "z", "z"), ("min", "n", "x", "n"),
            ("write", "c", "z"), ("out", "z"), ("write", "x", "c"),
        ):
            self.assertIs(is_text(one_block([row])), False, row)
            self.assertIs(is_text(one_block([row, ("num", "z", 1)])), False, row)

    def test_ends_that_a_row_ahead_makes(self):
        for row in (
            ("add", "n", "x", "z"), ("less", "n", "z", "x"), ("times", "n", "z", "z"), ("min", "n", "z", "y"),
            ("write", "c", "z"), ("out", "z"),
        ):
            self.assertIs(is_text(one_block([("num", "z", 1), row])), True, row)

    def test_a_cell_and_a_block_are_no_values(self):
        self.assertIs(is_text(one_block([("read", "n", "c"), ("out", "c")])), False)
        self.assertIs(is_text(one_block([("out", "b")])), False)

    def test_values_of_the_finish_that_nothing_makes(self):
        for finish in (
            ("stop", ("z",)), ("stop", ("x", "z")), ("go", "b", ("x", "z")), ("when", "z", "b", ("x", "y"), "b", ("x", "y")),
            ("when", "x", "b", ("z", "y"), "b", ("x", "y")), ("when", "x", "b", ("x", "y"), "b", ("x", "z")),
        ):
            self.assertIs(is_text(one_block([], finish=finish)), False, finish)
            self.assertIs(is_text(one_block([("num", "z", 1)], finish=finish)), True, finish)

    def test_each_name_is_a_name(self):
        for wrong in ("", "abcdefghi", "A", "a1", 1, True, None, ("a",), ["a"], {"a": 1}):
            texts = [
                ((wrong, (), (), ("stop", ())),),
                one_block([], takes=(wrong,)),
                one_block([("num", wrong, 1)]), one_block([("read", wrong, "c")]), one_block([("read", "n", wrong)]),
                one_block([("write", wrong, "x")]), one_block([("write", "c", wrong)]), one_block([("out", wrong)]),
                one_block([("add", wrong, "x", "y")]), one_block([("less", "n", wrong, "y")]),
                one_block([("min", "n", "x", wrong)]), one_block([("times", "n", wrong, wrong)]),
                one_block([], takes=(wrong,), finish=("stop", (wrong,))),
                one_block([], finish=("stop", (wrong,))), one_block([], finish=("go", wrong, ())),
                one_block([], takes=(), finish=("go", wrong, ())),
                one_block([], finish=("go", "b", (wrong, "x"))),
                one_block([], finish=("when", wrong, "b", ("x", "y"), "b", ("x", "y"))),
                one_block([], finish=("when", "x", wrong, ("x", "y"), "b", ("x", "y"))),
                one_block([], finish=("when", "x", "b", ("x", wrong), "b", ("x", "y"))),
                one_block([], finish=("when", "x", "b", ("x", "y"), wrong, ("x", "y"))),
                one_block([], finish=("when", "x", "b", ("x", "y"), "b", (wrong, "y"))),
            ]
            for text in texts:
                self.assertIs(is_text(text), False, text)

    def test_the_cell_is_a_name_of_one_to_eight_letters(self):
        self.assertIs(is_text(one_block([("read", "n", "abcdefgh"), ("write", "a", "n")])), True)


class Worths(unittest.TestCase):
    def unlike(self, *rows):
        self.assertIs(is_text(one_block(rows)), True, rows)

    def twins(self, *rows):
        self.assertIs(is_text(one_block(rows)), False, rows)

    def test_numbers(self):
        self.unlike(("num", "n", 1), ("num", "m", 2))
        self.twins(("num", "n", 1), ("num", "m", 1))
        self.twins(("num", "n", 1), ("num", "m", 2), ("num", "o", 1))

    def test_ends_in_this_order(self):
        for word in ("add", "less", "times", "min"):
            self.twins((word, "n", "x", "y"), (word, "m", "x", "y"))
            self.twins((word, "n", "x", "x"), (word, "m", "x", "x"))
            self.unlike((word, "n", "x", "x"), (word, "m", "x", "y"), (word, "o", "y", "y"))

    def test_ends_in_the_other_order(self):
        for word in ("add", "times", "min"):
            self.twins((word, "n", "x", "y"), (word, "m", "y", "x"))
            self.twins((word, "n", "y", "x"), (word, "m", "x", "y"))
        self.unlike(("less", "n", "x", "y"), ("less", "m", "y", "x"))

    def test_unlike_words(self):
        self.unlike(("add", "a", "x", "y"), ("less", "b", "x", "y"), ("times", "c", "x", "y"), ("min", "d", "x", "y"))

    def test_by_way_of_other_rows(self):
        self.twins(
            ("add", "n", "x", "y"), ("add", "m", "y", "x"), ("less", "o", "n", "x"), ("less", "p", "m", "x"),
        )
        self.twins(("num", "n", 1), ("num", "m", 1), ("times", "o", "n", "x"), ("times", "p", "x", "m"))
        self.unlike(("add", "n", "x", "y"), ("add", "m", "x", "x"), ("less", "o", "n", "x"), ("less", "p", "m", "x"))

    def test_ends_that_other_rows_make(self):
        self.twins(("num", "n", 1), ("add", "m", "n", "x"), ("out", "m"), ("add", "o", "x", "n"))
        self.unlike(("num", "n", 1), ("num", "m", 2), ("add", "o", "n", "x"), ("add", "p", "x", "m"))

    def test_reads(self):
        self.twins(("read", "n", "c"), ("read", "m", "c"))
        self.unlike(("read", "n", "c"), ("read", "m", "d"))
        self.unlike(("read", "n", "c"), ("write", "c", "x"), ("read", "m", "c"))
        self.unlike(("read", "n", "c"), ("write", "c", "n"), ("read", "m", "c"))
        self.twins(("read", "n", "c"), ("write", "d", "x"), ("read", "m", "c"))
        self.twins(("write", "c", "x"), ("read", "n", "c"), ("write", "d", "x"), ("read", "m", "c"))
        self.twins(("read", "n", "c"), ("write", "c", "x"), ("read", "m", "c"), ("read", "o", "c"))
        self.unlike(
            ("write", "c", "x"), ("read", "n", "c"), ("write", "c", "x"), ("read", "m", "c"), ("write", "d", "x"),
            ("read", "o", "d"),
        )

    def test_writes_and_outs_never(self):
        self.unlike(("write", "c", "x"), ("write", "c", "x"), ("out", "x"), ("out", "x"), ("write", "c", "x"))

    def test_of_two_blocks(self):
        twin = (("num", "n", 1), ("num", "m", 1))
        text = (("a", (), twin[:1], ("stop", ())), ("b", (), twin[1:], ("stop", ())))
        self.assertIs(is_text(text), True)
        text = (("a", (), (), ("stop", ())), ("b", (), twin, ("stop", ())))
        self.assertIs(is_text(text), False)


class Anything(unittest.TestCase):
    def test_wrong_things(self):
        for thing in WRONG:
            self.assertIs(is_text(thing), False, thing)
            self.assertIs(is_text((thing,)), False, thing)

    def test_a_wrong_thing_in_each_place(self):
        for thing in WRONG:
            for text in with_each_part_replaced(FULL, thing):
                self.assertIn(is_text(text), (True, False))
                self.assertIs(type(is_text(text)), bool)

    def test_other_kinds_in_each_place(self):
        for thing in (None, True, False, -1, 10 ** 299, "Aa", "a b", [], {}, ["a"], {"a": "b"}, deep((), 15)):
            for text in with_each_part_replaced(FULL, thing):
                self.assertIs(is_text(text), False, text)

    def test_lists_in_the_place_of_tuples(self):
        count = 0
        for text in with_each_tuple_a_list(FULL):
            count += 1
            self.assertIs(is_text(text), False, text)
        self.assertEqual(count, 22)

    def test_texts_in_the_place_of_tuples(self):
        self.assertIs(is_text((("b", "xy", (), ("stop", ())),)), False)
        self.assertIs(is_text((("b", "", (), ("stop", ())),)), False)
        self.assertIs(is_text((("b", (), "", ("stop", ())),)), False)
        self.assertIs(is_text(one_block([], finish=("stop", "x"))), False)
        self.assertIs(is_text(one_block([], finish=("stop", ""))), False)
        self.assertIs(is_text(one_block([], finish=("go", "b", "xy"))), False)
        self.assertIs(is_text((("b", ("x",), ("xy",), ("stop", ())),)), False)

    def test_dicts_in_the_place_of_tuples(self):
        self.assertIs(is_text({0: FULL[0]}), False)
        self.assertIs(is_text(({0: "b", 1: (), 2: (), 3: ("stop", ())},)), False)
        self.assertIs(is_text((("b", {}, (), ("stop", ())),)), False)
        self.assertIs(is_text((("b", (), {}, ("stop", ())),)), False)
        self.assertIs(is_text(one_block([{0: "out", 1: "x"}])), False)
        self.assertIs(is_text(one_block([], finish=("stop", {}))), False)

    def test_unknown_words(self):
        for word in ("", "sub", "NUM", "num ", "stop", "go", "div", "adds"):
            for rest in (("x",), ("n", "x"), ("n", 1), ("n", "x", "y")):
                self.assertIs(is_text(one_block([(word,) + rest])), False, word)
        for word in ("", "halt", "STOP", "num", "out", "stops"):
            for rest in ((("x", "y"),), ("b", ("x", "y")), ("x", "b", ("x", "y"), "b", ("x", "y"))):
                self.assertIs(is_text(one_block([], finish=(word,) + rest)), False, word)

    def test_words_with_the_shape_of_others(self):
        self.assertIs(is_text(one_block([("num", "n", "x")])), False)
        self.assertIs(is_text(one_block([("read", "n", 1)])), False)
        self.assertIs(is_text(one_block([("add", "n", "x")])), False)
        self.assertIs(is_text(one_block([("num", "n", 1, 1)])), False)

    def test_deep_and_big_things(self):
        for thing in (
            deep((), 18), deep([], 18), deep("a", 18), ("a",) * 20000, (None,) * 20000, ((),) * 20000,
            "a" * 20000, [FULL] * 20, {k: FULL for k in range(20)}, (FULL,) * 6, (FULL[1],) * 20000,
        ):
            self.assertIs(is_text(thing), False)
            self.assertIs(is_name(thing), False)
        self.assertIs(is_text(one_block([("out", "x")] * 20000)), False)
        self.assertIs(is_text(one_block([], takes=number_of_values(26) * 700)), False)

    def test_what_is_asked_about_is_not_changed(self):
        things = [FULL, list(FULL), [list(block) for block in FULL], {"a": [1, {"b": []}]}, (["b"], {}, [()], [])]
        for thing in things:
            kept = copy.deepcopy(thing)
            is_text(thing)
            is_name(thing)
            self.assertEqual(thing, kept)

    def test_asked_again_the_same_is_told(self):
        for _ in range(3):
            self.assertIs(is_text(FULL), True)
            self.assertIs(is_text(FULL[:1]), False)


def with_each_part_replaced(thing, other):
    """The thing, again and again, with another of its parts replaced."""
    yield other
    if isinstance(thing, tuple):
        for at in range(len(thing)):
            for part in with_each_part_replaced(thing[at], other):
                yield thing[:at] + (part,) + thing[at + 1:]


def with_each_tuple_a_list(thing):
    """The thing, again and again, with another of its tuples made a list."""
    if isinstance(thing, tuple):
        yield list(thing)
        for at in range(len(thing)):
            for part in with_each_tuple_a_list(thing[at]):
                yield thing[:at] + (part,) + thing[at + 1:]


if __name__ == "__main__":
    unittest.main()
