import copy
import itertools
import random
import unittest

from codelots.codes import is_code
from codelots.errors import Empty, LotError, Twin
from codelots.plain import are_one, plain
from codelots.reading import read
from codelots.texts import is_text
from tests.samples import CODE, EVEN, FULL, code, code_block, disguised, one_block, random_code, random_text


def rows_of(rows, places=(0, 1)):
    """The rows of the text that a code of one block reads to."""
    return read(code(rows, places))[0][2]


def refusal(thing):
    """What refuses a code: the class, the block and the row; None where it is read."""
    try:
        read(thing)
    except (Empty, Twin) as why:
        return (type(why), why.block, why.row)
    return None


class Read(unittest.TestCase):
    def test_every_word(self):
        self.assertEqual(read(CODE), plain(FULL))

    def test_blocks_without_rows_or_takes(self):
        self.assertEqual(read(code(places=())), one_block([], ()))
        self.assertEqual(read(code()), one_block([], ("a", "b")))
        told = read(code([("num", 5, 1), ("out", 5)], ()))
        self.assertEqual(told, one_block([("num", "a", 1), ("out", "a")], ()))

    def test_maps_in_any_order(self):
        for places in itertools.permutations((0, 3, 11)):
            one, two, three = places
            told = read(code([("less", 5, one, two), ("less", 6, three, one)], places, ("stop", (one, two, three))))
            rows = [("less", "d", "a", "b"), ("less", "e", "c", "a")]
            self.assertEqual(told, one_block(rows, ("a", "b", "c"), ("stop", ("a", "b", "c"))))

    def test_registers_put_again_and_again(self):
        rows = [("num", 0, 5), ("add", 0, 0, 1), ("times", 0, 0, 0), ("out", 0), ("num", 0, 4), ("less", 1, 1, 0)]
        told = (
            ("num", "c", 4), ("num", "d", 5), ("add", "e", "b", "d"), ("less", "f", "b", "c"), ("times", "g", "e", "e"),
            ("out", "g"),
        )
        self.assertEqual(rows_of(rows), told)

    def test_one_register_for_all(self):
        rows = [("num", 0, 3)] + [("add", 0, 0, 0)] * 13
        told = read(code(rows, (), ("stop", (0, 0))))
        letters = "abcdefghijklmn"
        made = [("add", letters[k + 1], letters[k], letters[k]) for k in range(13)]
        self.assertEqual(told, one_block([("num", "a", 3)] + made, (), ("stop", ("n", "n"))))

    def test_a_value_that_is_put_over_unread(self):
        self.assertEqual(rows_of([("num", 0, 3), ("num", 0, 4)]), (("num", "c", 3), ("num", "d", 4)))

    def test_even_ends_in_either_order(self):
        for word in EVEN:
            told = ((word, "c", "a", "b"),)
            self.assertEqual(rows_of([(word, 2, 0, 1)]), told)
            self.assertEqual(rows_of([(word, 2, 1, 0)]), told)
            self.assertEqual(rows_of([(word, 0, 1, 0)]), told)
            self.assertEqual(rows_of([(word, 2, 0, 1)], (1, 0)), told)
        self.assertEqual(rows_of([("less", 2, 0, 1)]), (("less", "c", "a", "b"),))
        self.assertEqual(rows_of([("less", 2, 1, 0)]), (("less", "c", "b", "a"),))
        self.assertEqual(rows_of([("less", 2, 0, 1)], (1, 0)), (("less", "c", "b", "a"),))

    def test_rows_in_any_order_that_lets_each_follow(self):
        rows = [("num", 2, 5), ("less", 3, 0, 1), ("write", "c", 0), ("read", 4, "d")]
        told = (("num", "c", 5), ("less", "d", "a", "b"), ("read", "e", "d"), ("write", "c", "a"))
        for order in itertools.permutations(rows):
            self.assertEqual(rows_of(order), told)

    def test_rows_that_hang_keep_their_order(self):
        self.assertEqual(rows_of([("out", 1), ("out", 0)]), (("out", "b"), ("out", "a")))
        self.assertEqual(rows_of([("write", "c", 1), ("write", "c", 0)]), (("write", "c", "b"), ("write", "c", "a")))
        self.assertEqual(rows_of([("write", "c", 1), ("read", 2, "c")]), (("write", "c", "b"), ("read", "c", "c")))
        self.assertEqual(rows_of([("read", 2, "c"), ("write", "c", 1)]), (("read", "c", "c"), ("write", "c", "b")))

    def test_finishes(self):
        rows = [("num", 0, 3), ("add", 1, 0, 1)]
        for finish, told in (
            (("stop", ()), ("stop", ())),
            (("stop", (0, 1, 0)), ("stop", ("c", "d", "c"))),
            (("go", "b", (1, 1)), ("go", "b", ("d", "d"))),
            (("when", 1, "b", (0, 1), "b", (1, 0)), ("when", "d", "b", ("c", "d"), "b", ("d", "c"))),
        ):
            made = [("num", "c", 3), ("add", "d", "b", "c")]
            self.assertEqual(read(code(rows, finish=finish)), one_block(made, ("a", "b"), finish=told))

    def test_twenty_values(self):
        rows = [("num", 6 + at % 6, 1000 - at) for at in range(14)]
        told = read(code(rows, (5, 4, 3, 2, 1, 0), ("stop", (7, 0, 5))))
        self.assertEqual([row[1] for row in told[0][2]], list("ghijklmnopqrst"))
        self.assertEqual([row[2] for row in told[0][2]], list(range(987, 1001)))
        self.assertEqual(told[0][3], ("stop", ("g", "f", "a")))

    def test_blocks_stand_in_their_places(self):
        thing = tuple(code_block([("num", 1, 3)], (), ("go", "zyx"[at], ()), "xyz"[at]) for at in range(3))
        told = tuple(("xyz"[at], (), (("num", "a", 3),), ("go", "zyx"[at], ())) for at in range(3))
        self.assertEqual(read(thing), told)


class Refused(unittest.TestCase):
    def empty(self, thing, block, row):
        self.assertIs(is_code(thing, 12), True)
        self.assertEqual(refusal(thing), (Empty, block, row))

    def twin(self, thing, block, row):
        self.assertIs(is_code(thing, 12), True)
        self.assertEqual(refusal(thing), (Twin, block, row))

    def fine(self, thing):
        self.assertIs(is_code(thing, 12), True)
        self.assertIsNone(refusal(thing))


class Emptied(Refused):
    def test_each_end_of_a_row(self):
        for row in (
            ("add", 0, 2, 1), ("add", 0, 1, 2), ("less", 0, 2, 1), ("less", 0, 1, 2), ("times", 0, 2, 2),
            ("min", 2, 2, 1), ("min", 2, 1, 2), ("write", "c", 2), ("out", 2),
        ):
            self.empty(code([row]), 0, 0)
            self.empty(code([("num", 0, 7), row]), 0, 1)
            self.fine(code([("num", 2, 7), row]))
            self.fine(code([row], (0, 1, 2)))
            self.empty(code([row, ("num", 2, 7)]), 0, 0)

    def test_a_row_does_not_fill_its_own_end(self):
        self.empty(code([("add", 2, 2, 2)]), 0, 0)
        self.empty(code([("num", 3, 1), ("less", 2, 0, 2)]), 0, 1)

    def test_each_value_of_a_finish(self):
        finishes = (
            ("stop", (2,)), ("stop", (0, 1, 2)), ("go", "b", (2, 0)), ("go", "b", (0, 2)),
            ("when", 2, "b", (0, 1), "b", (0, 1)), ("when", 0, "b", (2, 1), "b", (0, 1)),
            ("when", 0, "b", (0, 1), "b", (0, 2)),
        )
        for finish in finishes:
            for count in range(4):
                self.empty(code([("num", 3, n) for n in range(count)], finish=finish), 0, count)
            self.fine(code([("num", 2, 3)], finish=finish))
            self.fine(code([("read", 1, "c")], (0, 2), finish))

    def test_what_came_ahead_does_not_count(self):
        ahead = code_block([("num", 2, 7)], (0, 1, 3), ("go", "c", (2, 3)), "a")
        for rows, row in (([("out", 2)], 0), ([("out", 1), ("out", 3)], 1), ([("num", 3, 1), ("add", 3, 3, 2)], 1)):
            self.empty((ahead, code_block(rows, (0, 1), ("go", "a", (0, 1, 1)), "c")), 1, row)
        # A block that comes back with all registers full, and one that nothing goes to.
        self.empty(code([("out", 2), ("num", 2, 3)], finish=("go", "b", (2, 2))), 0, 0)
        self.empty((code_block(), code_block([("out", 5)], (), name="c")), 1, 0)
        self.empty((code_block([], (), ("stop", (0,))),), 0, 0)

    def test_registers_of_the_map_are_full(self):
        self.fine(code([("out", 11), ("add", 0, 7, 11)], (11, 7)))

    def test_fields_and_kinds(self):
        with self.assertRaises(LotError) as caught:
            read((code_block(), code_block([("out", 0), ("out", 7)], name="c")))
        self.assertIs(type(caught.exception), Empty)
        self.assertEqual((caught.exception.block, caught.exception.row), (1, 1))


class Twins(Refused):
    def test_numbers(self):
        self.twin(code([("num", 0, 5), ("num", 1, 5)]), 0, 1)
        self.twin(code([("num", 0, 5), ("num", 0, 5)]), 0, 1)
        self.twin(code([("num", 0, 5), ("num", 0, 6), ("num", 0, 5)]), 0, 2)
        self.fine(code([("num", 0, 5), ("num", 0, 6), ("num", 0, 7)]))

    def test_swapped_even_ends(self):
        for word in EVEN:
            self.twin(code([(word, 2, 0, 1), (word, 3, 0, 1)]), 0, 1)
            self.twin(code([(word, 2, 0, 1), (word, 3, 1, 0)]), 0, 1)
            self.fine(code([(word, 2, 0, 1), (word, 3, 0, 0), (word, 4, 1, 1)]))
        self.twin(code([("less", 2, 0, 1), ("less", 3, 0, 1)]), 0, 1)
        self.fine(code([("less", 2, 0, 1), ("less", 3, 1, 0)]))

    def test_other_words_are_no_twins(self):
        self.fine(code([(word, at + 2, 0, 1) for at, word in enumerate(("add", "less", "times", "min"))]))

    def test_values_count_not_registers(self):
        self.fine(code([("add", 2, 0, 1), ("num", 0, 5), ("add", 3, 0, 1)]))
        self.fine(code([("add", 0, 0, 1), ("add", 0, 0, 1), ("add", 0, 0, 1)]))
        # Register 2 has another value by then, and rows 3 and 5 add the same two.
        rows = [("read", 2, "c"), ("add", 3, 2, 0), ("num", 2, 1), ("add", 4, 3, 2), ("num", 5, 2), ("add", 6, 2, 3)]
        self.twin(code(rows), 0, 5)

    def test_takes_in_other_registers(self):
        self.twin(code([("less", 3, 2, 7), ("num", 0, 1), ("less", 0, 2, 7)], (7, 2)), 0, 2)
        self.fine(code([("less", 3, 2, 7), ("less", 0, 7, 2)], (7, 2)))

    def test_the_first_of_a_chain_of_twins(self):
        rows = [("num", 2, 1), ("add", 3, 2, 0), ("num", 4, 1), ("add", 5, 4, 0)]
        self.twin(code(rows), 0, 2)

    def test_a_twin_of_a_value_that_lies_nowhere_any_more(self):
        self.twin(code([("add", 2, 0, 1), ("num", 2, 3), ("num", 2, 4), ("add", 2, 1, 0)]), 0, 3)

    def test_a_cell_read_twice(self):
        self.twin(code([("read", 2, "c"), ("read", 3, "c")]), 0, 1)
        self.twin(code([("read", 2, "c"), ("write", "d", 0), ("read", 3, "c")]), 0, 2)
        self.fine(code([("read", 2, "c"), ("write", "c", 0), ("read", 3, "c")]))
        self.fine(code([("read", 2, "c"), ("write", "c", 2), ("read", 3, "c")]))
        self.fine(code([("read", 2, "c"), ("read", 3, "d")]))
        self.twin(code([("write", "c", 0), ("read", 2, "c"), ("out", 2), ("read", 2, "c")]), 0, 3)
        self.fine(code([("read", 2, "c"), ("write", "c", 0), ("read", 2, "c"), ("write", "c", 0), ("read", 2, "c")]))

    def test_writes_and_outs_are_no_twins(self):
        self.fine(code([("write", "c", 0), ("write", "c", 0), ("out", 0), ("out", 0), ("write", "c", 0), ("out", 0)]))

    def test_each_block_by_itself(self):
        rows = [("num", 0, 5), ("add", 0, 0, 1), ("read", 2, "c")]
        self.fine((code_block(rows), code_block(rows, name="c")))
        self.twin((code_block(rows), code_block(rows + [("out", 2), ("num", 3, 5)], name="c")), 1, 4)

    def test_fields_and_kinds(self):
        with self.assertRaises(LotError) as caught:
            read((code_block(), code_block(), code_block([("num", 0, 5), ("num", 1, 5)], name="c"))[1:])
        self.assertIs(type(caught.exception), Twin)
        self.assertEqual((caught.exception.block, caught.exception.row), (1, 1))


class Several(Refused):
    empty_row = ("out", 9)
    twin_row = ("num", 5, 5)

    def test_the_first_row(self):
        start = [("num", 5, 5)]
        self.empty(code(start + [self.empty_row, self.twin_row]), 0, 1)
        self.twin(code(start + [self.twin_row, self.empty_row]), 0, 1)
        self.empty(code(start + [self.empty_row, self.empty_row]), 0, 1)
        self.twin(code(start + [self.twin_row, self.twin_row]), 0, 1)
        self.twin(code(start + [self.twin_row], finish=("stop", (9,))), 0, 1)
        self.empty(code(start + [self.empty_row], finish=("stop", (9,))), 0, 1)

    def test_the_first_block(self):
        start = ("num", 5, 5)
        twins = code_block([start, ("out", 0), ("out", 0), self.twin_row])
        empties = code_block([start, self.empty_row], name="c")
        ends = code_block([start, ("out", 0)], finish=("stop", (9,)), name="d")
        self.twin((twins, empties, ends), 0, 3)
        self.empty((empties, twins, ends), 0, 1)
        self.empty((ends, empties, twins), 0, 2)
        self.twin((code_block(name="e"), twins, empties), 1, 3)
        self.empty((code_block(name="e"), ends, twins), 1, 2)

    def test_empty_ahead_of_twin(self):
        # Both rows would be the same, were there anything in register 9.
        self.empty(code([("add", 2, 0, 9), ("add", 3, 0, 9)]), 0, 0)
        self.empty(code([("num", 2, 5), ("add", 3, 0, 9), ("num", 2, 5)]), 0, 1)
        self.empty(code([("less", 2, 0, 1), ("less", 2, 0, 9), ("less", 2, 0, 1)]), 0, 1)

    def test_random_codes_by_the_documents_words(self):
        chance = random.Random(31)
        counts = {Empty: 0, Twin: 0, None: 0}
        for _ in range(3000):
            thing = tuple(wild_block(chance, name) for name in "ab"[:chance.randint(1, 2)])
            self.assertIs(is_code(thing, 4), True)
            expected = first_fault(thing)
            counts[expected[0] if expected else None] += 1
            self.assertEqual(refusal(thing), expected, thing)
        self.assertGreater(min(counts.values()), 200)


def wild_block(chance, name):
    """A block of a code with any registers."""
    rows = []
    for _ in range(chance.randint(0, 8)):
        one, two, new = (chance.choice((0, 0, 0, 1, 1, 1, 2, 2, 2, 3)) for _ in range(3))
        rows.append(chance.choice([
            ("num", new, chance.randint(0, 1)), ("add", new, one, two), ("less", new, one, two),
            ("times", new, one, two), ("min", new, one, two), ("read", new, chance.choice("cd")),
            ("write", chance.choice("cd"), one), ("out", one),
        ]))
    finish = ("stop", tuple(chance.randint(0, 2) for _ in range(chance.randint(0, 1))))
    return (name, tuple(chance.sample(range(3), chance.choice((2, 3, 3, 3)))), tuple(rows), finish)


def first_fault(thing):
    """What refuses a code, by the document's words: worths written out in full."""
    for number, (_, places, rows, finish) in enumerate(thing):
        holds = {place: "take" + str(at) for at, place in enumerate(places)}
        worths = []
        for at, row in enumerate(rows):
            row_ends = {"num": (), "read": (), "write": row[2:], "out": row[1:]}.get(row[0], row[2:])
            if not set(row_ends) <= set(holds):
                return (Empty, number, at)
            if row[0] in ("write", "out"):
                continue
            held = [holds[place] for place in row_ends]
            parts = sorted(held) if row[0] in EVEN else held
            if row[0] == "num":
                parts = [str(row[2])]
            if row[0] == "read":
                writes = [other for other in rows[:at] if other[0] == "write" and other[1] == row[2]]
                parts = [row[2], str(len(writes))]
            made = row[0] + "(" + " ".join(parts) + ")"
            if made in worths:
                return (Twin, number, at)
            worths.append(made)
            holds[row[1]] = made
        if not set(finish[1]) <= set(holds):
            return (Empty, number, len(rows))
    return None


class Together(unittest.TestCase):
    def test_codes_read_to_the_plain_form_of_their_text(self):
        chance = random.Random(32)
        found = 0
        while found < 300:
            text = random_text(chance, chance.randint(1, 6), 14, 3)
            made = random_code(chance, text, chance.randint(1, 12))
            if made is None:
                continue
            found += 1
            before = copy.deepcopy(made)
            told = read(made)
            self.assertEqual(made, before)
            self.assertEqual(told, plain(text))
            self.assertIs(is_text(told), True)
            self.assertEqual(plain(told), told)
            self.assertIs(are_one(told, disguised(chance, text)), True)

    def test_whatever_is_read_is_a_text_and_its_own_plain_form(self):
        chance = random.Random(33)
        found = 0
        while found < 300:
            thing = tuple(wild_block(chance, name) for name in "abc"[:chance.randint(1, 3)])
            if first_fault(thing) is None:
                found += 1
                told = read(thing)
                self.assertIs(is_text(told), True)
                self.assertEqual(plain(told), told)

    def test_a_text_with_numbers_for_its_values_is_a_code_of_it(self):
        chance = random.Random(34)
        for _ in range(200):
            text = random_text(chance, 2, 6, 3)
            self.assertEqual(read(tuple(numbered(block) for block in text)), plain(text))

    def test_the_same_answer_again(self):
        self.assertEqual(read(CODE), read(copy.deepcopy(CODE)))

    def test_somewhat_larger_codes_are_read_too(self):
        rows = [("num", 20 + at, at) for at in range(24)] + [("less", 15, 43, 0)]
        told = read(code(rows, range(8), ("stop", (15, 43, 7))))
        self.assertEqual(len(told[0][2]), 25)
        self.assertEqual(plain(told), told)


def numbered(block):
    """A text's block with a register of its own for each value."""
    name, takes, rows, finish = block
    values = list(takes) + [row[1] for row in rows if row[0] not in ("write", "out")]

    def led(parts):
        return tuple(values.index(part) for part in parts)

    def led_row(row):
        if row[0] in ("num", "read"):
            return (row[0], values.index(row[1]), row[2])
        if row[0] == "write":
            return (row[0], row[1], values.index(row[2]))
        return (row[0],) + led(row[1:])

    def led_part(part):
        if isinstance(part, tuple):
            return led(part)
        return part

    told = tuple(led_part(part) for part in finish)
    if finish[0] == "when":
        told = ("when", values.index(finish[1])) + told[2:]
    return (name, led(takes), tuple(led_row(row) for row in rows), told)


if __name__ == "__main__":
    unittest.main()
