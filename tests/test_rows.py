import random
import unittest

from codelots.rows import following, hanging
from tests.samples import hung, random_text


class Hanging(unittest.TestCase):
    def test_ends(self):
        rows = (("num", "n", 1), ("add", "m", "n", "x"), ("less", "o", "m", "n"), ("write", "c", "o"), ("out", "m"))
        self.assertEqual(hanging(rows), [[], [0], [0, 1], [2], [1]])

    def test_cells(self):
        rows = (
            ("read", "r", "c"), ("read", "s", "d"), ("write", "c", "x"), ("write", "c", "x"), ("read", "t", "c"),
            ("write", "d", "x"),
        )
        self.assertEqual(hanging(rows), [[], [], [0], [0, 2], [2, 3], [1]])

    def test_outs_hang_on_outs_alone(self):
        rows = (("out", "x"), ("write", "c", "x"), ("num", "n", 1), ("out", "x"), ("read", "r", "c"), ("out", "y"))
        self.assertEqual(hanging(rows), [[], [], [], [0], [1], [0, 3]])

    def test_random_blocks(self):
        chance = random.Random(7)
        for _ in range(300):
            rows = random_text(chance, 1, 14, 3)[0][2]
            self.assertEqual([set(on) for on in hanging(rows)], hung(rows))


class Following(unittest.TestCase):
    def test_rows_that_may_follow(self):
        on = [[], [0], [], [1, 2]]
        self.assertEqual(following(on, []), [0, 2])
        self.assertEqual(following(on, [0]), [1, 2])
        self.assertEqual(following(on, (0, 1)), [2])
        self.assertEqual(following(on, [2, 0]), [1])
        self.assertEqual(following(on, [2, 1, 0]), [3])
        self.assertEqual(following(on, [0, 1, 2, 3]), [])
        self.assertEqual(following([], []), [])


if __name__ == "__main__":
    unittest.main()
