"""The errors: their base class, their attributes, by position and by name."""

import unittest

from oncecrossed import errors

ATTRIBUTES = {
    "BadWeb": "thing", "BadLot": "thing", "BadTie": "number", "BadRenaming": "thing", "BadText": "at",
    "NoPairing": None, "NotTight": "pairing", "BadPairing": "thing", "BadPlace": "thing", "BadPaper": "thing",
    "BadTaking": "thing", "BadLots": "thing", "BadWebs": "thing", "BadTerms": "thing", "BadWeights": "thing",
    "BadHalf": "thing", "NotCritical": "certificate", "BadNumber": "thing", "BadRow": "thing", "BadRing": "thing",
    "NotCovered": "certificate", "BadChange": "at", "Full": None, "Held": None, "NoBunch": "place",
    "NothingHeld": None, "NothingToUndo": None, "NothingToRedo": None}

VALUES = (0, 7, -1, True, None, "text", "", (), (1, (2,)), [1, []], {"a": 1}, 10 ** 99, ("ring", (0, 1, 2)))


class TestErrors(unittest.TestCase):
    def test_all_are_there(self):
        found = [name for name in vars(errors) if not name.startswith("_")]
        self.assertEqual(sorted(found), sorted(list(ATTRIBUTES) + ["WebError"]))

    def test_bases(self):
        self.assertEqual(errors.WebError.__bases__, (Exception,))
        for name in ATTRIBUTES:
            self.assertEqual(vars(errors)[name].__bases__, (errors.WebError,), name)
            self.assertEqual(vars(errors)[name].__module__, "oncecrossed.errors", name)

    def test_attributes(self):
        for name, attribute in ATTRIBUTES.items():
            for value in VALUES if attribute else ():
                for error in (vars(errors)[name](value), vars(errors)[name](**{attribute: value})):
                    self.assertEqual(vars(error), {attribute: value}, name)
                    self.assertIs(vars(error)[attribute], value, name)

    def test_without_attributes(self):
        for name, attribute in ATTRIBUTES.items():
            if attribute is None:
                self.assertEqual(vars(vars(errors)[name]()), {}, name)

    def test_raised(self):
        with self.assertRaises(errors.WebError) as caught:
            raise errors.BadTie(number=(3, 4))
        self.assertEqual(caught.exception.number, (3, 4))


if __name__ == "__main__":
    unittest.main()
