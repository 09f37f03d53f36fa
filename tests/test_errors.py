import unittest

from codelots import errors
from codelots.errors import (
    Empty, Full, LotError, NoBlock, NoCode, NoHolder, NoName, NoNumber, NoRoom, NoSet, NoText, Standing, Twin,
)

WITH_FIELDS = [
    (Empty, ("block", "row")),
    (Twin, ("block", "row")),
    (NoNumber, ("count",)),
    (NoRoom, ("room",)),
    (Standing, ("name",)),
    (Full, ("most",)),
    (NoName, ("name",)),
    (NoHolder, ("holder",)),
]
WITH_MESSAGE = [NoSet, NoCode, NoBlock, NoText]
ALL = [kind for kind, _ in WITH_FIELDS] + WITH_MESSAGE
THINGS = [0, 3, -1, 10 ** 299, True, False, None, "", "ann", "a b\n\t~", (), (1, "x"), [], ["a", [None]], {}, {"a": 1}]


class Standings(unittest.TestCase):
    def test_lot_error_stands_under_value_error(self):
        self.assertEqual(LotError.__bases__, (ValueError,))

    def test_each_refusal_stands_right_under_lot_error_and_none_under_another(self):
        for kind in ALL:
            self.assertEqual(kind.__bases__, (LotError,), kind)

    def test_there_are_twelve_refusals_and_no_more(self):
        found = [name for name in vars(errors) if isinstance(getattr(errors, name), type)]
        self.assertEqual(sorted(found), sorted(kind.__name__ for kind in ALL + [LotError]))
        self.assertEqual(len(ALL), 12)

    def test_each_is_caught_as_a_lot_error_and_as_a_value_error(self):
        for kind in ALL:
            values = (1, 2) if kind in (Empty, Twin) else ("word",)
            for base in (kind, LotError, ValueError):
                with self.assertRaises(base):
                    raise kind(*values)


class Fields(unittest.TestCase):
    def test_fields_by_place(self):
        for kind, fields in WITH_FIELDS:
            values = (4, 7)[:len(fields)]
            error = kind(*values)
            self.assertEqual(tuple(getattr(error, field) for field in fields), values, kind)

    def test_there_are_no_other_fields(self):
        for kind, fields in WITH_FIELDS:
            error = kind(*(4, 7)[:len(fields)])
            self.assertEqual(sorted(vars(error)), sorted(fields), kind)
        for kind in WITH_MESSAGE + [LotError]:
            self.assertEqual(vars(kind("no such thing")), {}, kind)

    def test_fields_are_told_as_they_were_handed_in(self):
        for thing in THINGS:
            for kind, fields in WITH_FIELDS:
                error = kind(*(thing,) * len(fields))
                for field in fields:
                    told = getattr(error, field)
                    self.assertEqual(told, thing)
                    self.assertIs(type(told), type(thing))

    def test_what_was_handed_in_is_not_changed(self):
        thing = ["a", {"b": [1]}]
        for kind in (NoName, NoHolder):
            kind(thing)
            self.assertEqual(thing, ["a", {"b": [1]}])

    def test_each_takes_just_its_fields(self):
        for kind, fields in WITH_FIELDS:
            for count in range(4):
                if count != len(fields):
                    with self.assertRaises(TypeError):
                        kind(*range(count))

    def test_messages_of_those_without_fields(self):
        for kind in WITH_MESSAGE + [LotError]:
            self.assertEqual(str(kind("not that one")), "not that one")

    def test_each_has_a_message(self):
        for kind, fields in WITH_FIELDS:
            self.assertTrue(str(kind(*(4, 7)[:len(fields)])), kind)


if __name__ == "__main__":
    unittest.main()
