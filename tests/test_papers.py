import copy
import itertools
import random
import unittest

from codelots.counts import many, polynomial
from codelots.papers import is_pairing, is_table, pairing, table
from codelots.plain import are_one, plain
from codelots.texts import is_text
from tests.oracle import crowd_of, done_sets, following_rows, is_paired, makes, turns_of, with_row
from tests.samples import FULL, THINGS, disguised, hung, number_of_values, one_block, random_text

NOTHING = one_block([], ())
# In the plain form num c, add d (a + b).
FREE = one_block([("num", "n", 3), ("add", "s", "x", "y")], finish=("stop", ("n", "y")))
OUTS = one_block([("out", "x"), ("out", "y")])


def table_of(form):
    """The table of a plain form's block, by the document's words."""
    found = {}
    for done in reversed(done_sets(form)):
        if len(done) == len(form[2]):
            found[done] = [1]
            continue
        total = [0] * 16
        for at in following_rows(form, done):
            part = found[with_row(done, at)]
            if makes(form[2][at]):
                crowd = crowd_of(form, done, at)
                part = [one - crowd * other for one, other in zip([0] + part, part + [0])]
            for power, number in enumerate(part):
                total[power] += turns_of(form[2][at]) * number
        while total[-1] == 0:
            total.pop()
        found[done] = total
    return found


class Table(unittest.TestCase):
    def test_no_rows(self):
        self.assertEqual(table(NOTHING, 0), {(): [1]})
        # The takes are not counted in it.
        self.assertEqual(table(one_block([], number_of_values(6)), 0), {(): [1]})
        self.assertEqual(table(FULL, 1), {(): [1]})

    def test_small_ones(self):
        # The num's crowd is 2 (a, b), or 1 (b) behind the add; the add's is 1 (b), or 2 (b, c) behind the num.
        # So from the empty set on there are (k - 2) * 2 * (k - 2) + 2 * (k - 1) * (k - 1).
        told = {(): [10, -12, 4], (0,): [-4, 2], (1,): [-1, 1], (0, 1): [1]}
        self.assertEqual(table(FREE, 0), told)
        self.assertEqual(table(OUTS, 0), {(): [1], (0,): [1], (0, 1): [1]})
        text = one_block([("write", "c", "x"), ("write", "d", "x")], ("x",))
        self.assertEqual(table(text, 0), {(): [2], (0,): [1], (1,): [1], (0, 1): [1]})
        text = one_block([("min", "p", "x", "x"), ("less", "q", "x", "y")])
        self.assertEqual(table(text, 0), {(): [0, -3, 2], (0,): [0, 1], (1,): [0, 1], (0, 1): [1]})

    def test_each_block_by_its_number(self):
        text = (("p", (), (("num", "n", 1),), ("stop", ())), ("q", ("x",), (("num", "n", 1),), ("stop", ("x",))))
        self.assertEqual(table(text, 0), {(): [0, 1], (0,): [1]})
        self.assertEqual(table(text, 1), {(): [-1, 1], (0,): [1]})

    def test_random_blocks(self):
        chance = random.Random(101)
        for _ in range(80):
            text = random_text(chance, chance.randint(1, 2), chance.randint(0, 8), 3)
            other = disguised(chance, text)
            for block, form in enumerate(plain(text)):
                told = table(text, block)
                self.assertEqual(told, table_of(form))
                self.assertEqual(list(told), done_sets(form))
                self.assertEqual(table(other, block), told)
                self.assertIs(is_table(text, block, told), True)
                self.assertIs(is_table(other, block, told), True)

    def test_the_counts_come_of_it(self):
        chance = random.Random(102)
        for _ in range(40):
            text = random_text(chance, 1, chance.randint(0, 10), 0)
            self.assertEqual(table(text, 0)[()], polynomial(text))

    def test_dict_and_lists_are_new(self):
        for text in (NOTHING, FREE, OUTS):
            told = table(text, 0)
            self.assertIs(type(told), dict)
            before = copy.deepcopy(told)
            self.assertEqual(len({id(numbers) for numbers in told.values()}), len(told))
            for done in told:
                self.assertIs(type(told[done]), list)
                self.assertIs(type(done), tuple)
                told[done].append(7)
                told[done][0] = 9
            told.clear()
            self.assertEqual(table(text, 0), before)

    def test_a_large_one(self):
        text = one_block([("num", "n" + sign, at) for at, sign in enumerate("abcdefghijklmn")], number_of_values(6))
        told = table(text, 0)
        self.assertEqual(len(told), 2 ** 14)
        self.assertEqual(sum(number * 9 ** at for at, number in enumerate(told[()])) * 9 * 8 * 7 * 6 * 5 * 4, many(text, 9))
        self.assertIs(is_table(text, 0, told), True)
        told[(3, 4)][0] += 1
        self.assertIs(is_table(text, 0, told), False)


class IsTable(unittest.TestCase):
    def test_things_of_every_kind(self):
        for thing in THINGS:
            for text in (FREE, OUTS, FULL):
                self.assertIs(is_table(text, 0, thing), False)
            self.assertIs(is_table(NOTHING, 0, thing), thing == {(): [1]} and type(thing[()]) is list)
            self.assertIs(is_table(FREE, 0, {**table(FREE, 0), (0,): thing}), False)
            if not isinstance(thing, (list, dict)) and "[" not in repr(thing) and "{" not in repr(thing):
                if thing not in ((), (0,), (1,)):
                    self.assertIs(is_table(FREE, 0, {**table(FREE, 0), thing: [1]}), False)

    def test_a_set_less_and_a_set_more(self):
        told = table(FREE, 0)
        for done in told:
            self.assertIs(is_table(FREE, 0, {other: told[other] for other in told if other != done}), False)
        for done in ((2,), (1, 0), (0, 0), (0, 1, 2), (-1,)):
            self.assertIs(is_table(FREE, 0, {**told, done: [1]}), False)
        self.assertIs(is_table(OUTS, 0, {**table(OUTS, 0), (1,): [1]}), False)
        self.assertIs(is_table(FREE, 0, dict(reversed(list(told.items())))), True)

    def test_each_number_counts(self):
        for done in table(FREE, 0):
            for at in range(len(table(FREE, 0)[done])):
                told = table(FREE, 0)
                told[done][at] += 1
                self.assertIs(is_table(FREE, 0, told), False)
                told[done][at] -= 1
                self.assertIs(is_table(FREE, 0, told), True)
            told = table(FREE, 0)
            told[done].append(0)
            self.assertIs(is_table(FREE, 0, told), False)
            told[done] = told[done][:-2]
            self.assertIs(is_table(FREE, 0, told), False)

    def test_truths_are_no_numbers(self):
        self.assertIs(is_table(NOTHING, 0, {(): [1]}), True)
        self.assertIs(is_table(NOTHING, 0, {(): [True]}), False)
        self.assertIs(is_table(OUTS, 0, {(): [1], (0,): [1], (0, 1): [1]}), True)
        for wrong in ({(): [1], (False,): [1], (0, 1): [1]}, {(): [1], (0,): [1], (0, True): [1]},
                      {(): [1], (0,): [1], (False, True): [1]}, {(): [1], (0,): [True], (0, 1): [1]}):
            self.assertIs(is_table(OUTS, 0, wrong), False)
        text = one_block([("num", "n", 1)], ())
        self.assertIs(is_table(text, 0, {(): [0, 1], (0,): [1]}), True)
        self.assertIs(is_table(text, 0, {(): [False, 1], (0,): [1]}), False)

    def test_tuples_in_the_place_of_lists(self):
        told = table(FREE, 0)
        self.assertIs(is_table(FREE, 0, {**told, (0, 1): (1,)}), False)
        self.assertIs(is_table(FREE, 0, list(told.items())), False)
        self.assertIs(is_table(FREE, 0, tuple(told)), False)

    def test_another_blocks_table(self):
        self.assertIs(is_table(FULL, 1, table(FULL, 0)), False)
        self.assertIs(is_table(FULL, 0, table(FULL, 1)), False)
        self.assertIs(is_table(FULL, 1, table(NOTHING, 0)), True)

    def test_what_is_handed_in_stays(self):
        told = table(FREE, 0)
        before = copy.deepcopy(told)
        is_table(FREE, 0, told)
        self.assertEqual(told, before)


class Pairing(unittest.TestCase):
    def test_no_rows(self):
        self.assertEqual(pairing(NOTHING, NOTHING), ((),))
        self.assertEqual(pairing(one_block([], ("x", "y")), one_block([], ("p", "q"))), ((),))
        self.assertIsNone(pairing(NOTHING, one_block([], ("x",))))

    def test_rows_are_numbered_as_the_texts_have_them(self):
        # Neither stands in the plain form's order.
        rows = [("less", "l", "x", "y"), ("num", "n", 5), ("add", "s", "n", "l")]
        others = [("num", "k", 5), ("less", "m", "p", "q"), ("add", "t", "m", "k")]
        text, other = one_block(rows), one_block(others, ("p", "q"))
        self.assertEqual(pairing(text, other), ((1, 0, 2),))
        self.assertEqual(pairing(text, plain(text)), ((1, 0, 2),))
        self.assertEqual(pairing(plain(text), plain(text)), ((0, 1, 2),))
        rows = [("out", "x"), ("num", "n", 3), ("read", "r", "c"), ("num", "m", 1)]
        self.assertEqual(pairing(one_block(rows), one_block(rows[3:] + rows[:3])), ((1, 2, 3, 0),))
        self.assertEqual(pairing(one_block(rows[3:] + rows[:3]), one_block(rows)), ((3, 0, 1, 2),))

    def test_even_ends_in_either_order(self):
        for word in ("add", "times", "min"):
            self.assertEqual(pairing(one_block([(word, "p", "x", "y")]), one_block([(word, "q", "y", "x")])), ((0,),))
        self.assertIsNone(pairing(one_block([("less", "p", "x", "y")]), one_block([("less", "q", "y", "x")])))

    def test_none_where_the_texts_are_not_one(self):
        self.assertIsNone(pairing(FREE, OUTS))
        self.assertIsNone(pairing(FREE, FREE + (("c", (), (), ("stop", ())),)))
        self.assertIsNone(pairing(FREE + (("c", (), (), ("stop", ())),), FREE))
        self.assertIsNone(pairing(OUTS, one_block([("out", "y"), ("out", "x")])))
        self.assertIsNone(pairing(FREE, one_block(FREE[0][2], finish=("stop", ("y", "n")))))
        self.assertIsNone(pairing(FREE, (("c",) + FREE[0][1:],)))
        two = (("p", (), (), ("stop", ())), ("q", (), (), ("stop", ())))
        self.assertIsNone(pairing(two, two[::-1]))

    def test_kinds_and_what_is_handed_in(self):
        chance = random.Random(103)
        for _ in range(40):
            text = random_text(chance, chance.randint(1, 4), 12, 3)
            other = disguised(chance, text)
            before = copy.deepcopy((text, other))
            told = pairing(text, other)
            self.assertIs(type(told), tuple)
            self.assertEqual({type(rows) for rows in told}, {tuple})
            self.assertEqual({type(row) for rows in told for row in rows} - {int}, set())
            self.assertIs(is_pairing(text, other, told), True)
            self.assertEqual((text, other), before)

    def test_random_texts_that_are_one(self):
        chance = random.Random(104)
        for _ in range(150):
            text = random_text(chance, chance.randint(1, 4), 14, 3)
            other, third = disguised(chance, text), disguised(chance, text)
            told = pairing(text, other)
            self.assertTrue(is_paired(text, other, told))
            # There and back, and by way of a third text.
            back = pairing(other, text)
            self.assertEqual([[back[at][row] for row in rows] for at, rows in enumerate(told)],
                             [list(range(len(rows))) for rows in told])
            on = pairing(other, third)
            self.assertEqual(pairing(text, third), tuple(tuple(on[at][row] for row in rows) for at, rows in enumerate(told)))


def changed(chance, text):
    """A text with one part of one block changed, perhaps one that is one with it."""
    at = chance.randrange(len(text))
    name, takes, rows, finish = text[at]
    rows = list(rows)
    what = chance.choice(("row", "order", "finish", "takes"))
    if what == "row" and rows:
        row = chance.choice(rows)
        new = {
            "num": row[:2] + (chance.randint(0, 2),), "read": row[:2] + (chance.choice("cd"),),
            "write": ("write", chance.choice("cd"), row[-1]),
        }.get(row[0], row)
        if len(row) == 4:
            new = (chance.choice(("add", "less", "min")), row[1], row[3], row[2])
        rows[rows.index(row)] = new
    if what == "order" and len(rows) > 1:
        k = chance.randrange(len(rows) - 1)
        rows[k:k + 2] = rows[k + 1], rows[k]
    if what == "finish" and finish[0] == "stop":
        finish = ("stop", finish[1][::-1])
    if what == "takes":
        takes = takes[::-1]
    return text[:at] + ((name, takes, tuple(rows), finish),) + text[at + 1:]


class IsPairing(unittest.TestCase):
    def test_all_tuples_of_rows(self):
        chance = random.Random(105)
        found = {True: 0, False: 0}
        for _ in range(120):
            text = random_text(chance, 1, chance.randint(0, 4), 2)
            other = changed(chance, disguised(chance, text))
            if not is_text(other):
                continue
            size = len(other[0][2])
            yes = []
            for rows in itertools.product(range(-1, size + 1), repeat=len(text[0][2])):
                expected = is_paired(text, other, (rows,))
                self.assertIs(is_pairing(text, other, (rows,)), expected)
                if expected:
                    yes.append((rows,))
            # There is one just where the texts are one, and never two.
            self.assertEqual(len(yes), int(are_one(text, other)))
            self.assertEqual(pairing(text, other), yes[0] if yes else None)
            found[len(yes) == 1] += 1
        self.assertGreater(min(found.values()), 20)

    def test_permutations_of_larger_ones(self):
        chance = random.Random(106)
        ones = 0
        for _ in range(300):
            text = random_text(chance, 2, 10, 3)
            other = changed(chance, disguised(chance, text))
            if not is_text(other):
                continue
            told = pairing(text, other)
            self.assertEqual(told is not None, are_one(text, other))
            ones += told is not None
            thing = [list(rows) for rows in told or [range(len(block[2])) for block in text]]
            for rows in thing:
                if len(rows) > 1 and chance.random() < 0.5:
                    one, two = chance.sample(range(len(rows)), 2)
                    rows[one], rows[two] = rows[two], rows[one]
            thing = tuple(tuple(rows) for rows in thing)
            self.assertIs(is_pairing(text, other, thing), is_paired(text, other, thing))
        self.assertGreater(ones, 50)

    def test_rows_that_could_be_either_but_for_their_order(self):
        text = one_block([("write", "c", "x"), ("write", "c", "x"), ("out", "x"), ("out", "x")], ("x",))
        self.assertEqual(hung(text[0][2])[1], {0})
        self.assertIs(is_pairing(text, text, ((0, 1, 2, 3),)), True)
        for wrong in ((1, 0, 2, 3), (0, 1, 3, 2), (1, 0, 3, 2), (0, 0, 2, 3), (0, 1, 2, 2)):
            self.assertIs(is_pairing(text, text, (wrong,)), False)

    def test_other_lengths(self):
        text = FREE + (("c", (), (("num", "n", 1),), ("stop", ())),)
        self.assertIs(is_pairing(text, text, ((0, 1), (0,))), True)
        for wrong in (((0, 1),), ((0, 1), (0,), ()), ((0,), (0,)), ((0, 1, 2), (0,)), ((0, 1), ()), (), ((), ())):
            self.assertIs(is_pairing(text, text, wrong), False)
        for wrong in (((0, 1), (0,)), ((0, 1),), ()):
            self.assertIs(is_pairing(text, FREE, wrong), False)
            self.assertIs(is_pairing(FREE, text, wrong), False)

    def test_truths_and_lists(self):
        self.assertIs(is_pairing(FREE, FREE, ((0, 1),)), True)
        for wrong in (((False, 1),), ((0, True),), ((False, True),), [(0, 1)], ([0, 1],), [[0, 1]], {(0, 1): 1}, (0, 1),
                      ((0, "1"),), ((0, None),), ((0, (1,)),), ({0: 1},), "01"):
            self.assertIs(is_pairing(FREE, FREE, wrong), False)
        self.assertIs(is_pairing(NOTHING, NOTHING, ((),)), True)
        self.assertIs(is_pairing(NOTHING, NOTHING, ([],)), False)
        self.assertIs(is_pairing(NOTHING, NOTHING, [()]), False)

    def test_things_of_every_kind(self):
        for thing in THINGS:
            self.assertIs(is_pairing(FREE, FREE, thing), False)
            self.assertIs(is_pairing(FREE, FREE, (thing,)), False)
            self.assertIs(is_pairing(FREE, FREE, ((0, thing),)), thing == 1 and thing is not True)
            self.assertIs(is_pairing(FREE, OUTS, thing), False)
            self.assertIs(is_pairing(NOTHING, NOTHING, thing), isinstance(thing, tuple) and thing == ((),))
        self.assertIs(is_pairing(FREE, OUTS, None), False)


if __name__ == "__main__":
    unittest.main()
