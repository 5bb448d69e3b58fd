import unittest

from beadmoot import errors

FIELDS = {
    "BadStrand": "at", "BadKind": "kind", "BadMark": "word", "BadPrice": "word", "NoSuchBead": "bead",
    "GoneBead": "bead", "EndBead": "bead", "NotApart": "left right", "RowFull": "", "NothingToUndo": "",
    "NothingToRedo": "", "BadRun": "at", "TwoLeft": "", "NotDone": "", "BadBook": "rule where",
    "OtherStrand": "", "NotGood": "gap", "OutOfReach": "least greatest", "BadFloors": "where",
    "CannotBe": "word bound", "NoSuchTotal": "below above", "TooManyStretches": "count",
    "NoSuchNumber": "number count", "NotTwoKinds": "variety", "TooManyBeads": "size", "BadLeft": "at",
    "NotEnough": "least", "NotFree": "least", "BadPlace": "place", "BadLog": "at", "NoFit": "at",
    "BadText": "at", "NoSuchTally": "", "BadSize": "size", "Clash": "chain", "BadJoin": "at",
    "NotNested": "level where", "QuietMove": "bead", "BadClaim": "", "BadCoins": "coins",
    "NoCoins": "price coins", "BadName": "name", "NameTaken": "name", "DeskFull": "", "NoSuchRow": "name",
    "BadLine": "", "Refused": "at", "BadJournal": "line",
}


class Errors(unittest.TestCase):
    """Point 3 and the section of the interface."""

    def test_all_48_are_there_and_no_others(self):
        own = [name for name, value in vars(errors).items() if isinstance(value, type)]
        self.assertEqual(len(FIELDS), 48)
        self.assertEqual(sorted(own), sorted([*FIELDS, "MootError"]))

    def test_bases(self):
        self.assertEqual(errors.MootError.__bases__, (ValueError,))
        for name in FIELDS:
            self.assertEqual(getattr(errors, name).__bases__, (errors.MootError,), name)

    def test_fields_by_position(self):
        for name, words in FIELDS.items():
            fields = words.split()
            worths = [f"worth {at}" for at in range(len(fields))]
            error = getattr(errors, name)(*worths)
            self.assertEqual([getattr(error, field) for field in fields], worths, name)
            self.assertEqual(list(vars(error)), fields, name)

    def test_fields_are_required(self):
        for name, words in FIELDS.items():
            if words:
                with self.assertRaises(TypeError):
                    getattr(errors, name)()

    def test_defined_in_the_file(self):
        for name in [*FIELDS, "MootError"]:
            self.assertEqual(getattr(errors, name).__module__, "beadmoot.errors")

    def test_caught_as_value_error(self):
        with self.assertRaises(ValueError):
            raise errors.BadFloors((0, 1))


if __name__ == "__main__":
    unittest.main()
