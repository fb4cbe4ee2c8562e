"""middlerows.errors: all error classes of the interface, with their fields."""

import unittest

from middlerows import errors
from middlerows.errors import RowError

WITHOUT_FIELDS = """BadMany NoRules BadRow NotKept BadIndex BadWant BadRule BadWants BadOrder BadPlaces Unlike
    BadPlace NotThere BadMost BadGaps BadValues BadPrices BadHalves BadPayments NotLeast BadPart BadShared TooWide
    BadAt NoText Already EvenVotes BadAll NotStraight""".split()
WITH_INDEX = "BadRules BadLot BadTold BadTurns BadTables BadLog BadVotes".split()


class TestErrors(unittest.TestCase):
    def test_each_is_a_direct_subclass_of_row_error(self):
        self.assertEqual(RowError.__bases__, (ValueError,))
        for name in WITHOUT_FIELDS + WITH_INDEX + ["TooMany", "InvalidText"]:
            with self.subTest(name):
                self.assertEqual(getattr(errors, name).__bases__, (RowError,))

    def test_no_other_errors(self):
        classes = {name for name in vars(errors) if not name.startswith("_")}
        self.assertEqual(classes, {"RowError", "TooMany", "InvalidText"} | set(WITHOUT_FIELDS) | set(WITH_INDEX))

    def test_fields(self):
        for name in WITHOUT_FIELDS:
            with self.subTest(name):
                self.assertEqual(vars(getattr(errors, name)("words")), {})
        for name in WITH_INDEX:
            for index in (None, 0, 3):
                with self.subTest(name, index=index):
                    self.assertEqual(vars(getattr(errors, name)(index)), {"index": index})
        self.assertEqual(vars(errors.TooMany(12)), {"most": 12})
        self.assertEqual(vars(errors.InvalidText(2, 5)), {"line": 2, "word": 5})
