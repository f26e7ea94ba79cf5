"""The errors of the package, with their fields and their base class."""

import unittest

from eventcore import errors

PLAIN = """BadLength BadPolicy BadSchedule BadOrder BadTask BadOffsets BadBlocks BadProtocol BadLengths BadMachines
BadNumber BadWeights BadRows BadDistances BadTable BadServer BadPrefix BadKind BadName BadWanted NameTaken NoName
DeskFull NothingToUndo NotText""".split()
INDEXED = """BadTasks BadPattern LongDeadline BadJobs BadSlots BadPairs BadLocked BadLinks BadNeeds BadParents
BadIntervals BadRequests BadTrace""".split()


class ErrorsTest(unittest.TestCase):
    def test_base_class(self):
        self.assertEqual(errors.EventError.__bases__, (ValueError,))
        self.assertEqual(errors.EventError.__module__, "eventcore.errors")

    def test_every_error_is_a_direct_subclass(self):
        for name in PLAIN + INDEXED + ["InvalidText", "TooMany"]:
            with self.subTest(name):
                self.assertEqual(getattr(errors, name).__bases__, (errors.EventError,))
                self.assertEqual(getattr(errors, name).__module__, "eventcore.errors")

    def test_nothing_else_is_there(self):
        found = {name for name in vars(errors) if isinstance(getattr(errors, name), type)}
        self.assertEqual(found, set(PLAIN + INDEXED + ["EventError", "InvalidText", "TooMany"]))

    def test_fields_are_set_when_the_error_is_created(self):
        for name in INDEXED:
            with self.subTest(name):
                self.assertEqual(vars(getattr(errors, name)(3)), {"index": 3})
                self.assertEqual(vars(getattr(errors, name)(None)), {"index": None})
        self.assertEqual(vars(errors.InvalidText(4)), {"place": 4})
        self.assertEqual(vars(errors.TooMany(40)), {"most": 40})

    def test_errors_without_fields(self):
        for name in PLAIN:
            with self.subTest(name):
                self.assertEqual(vars(getattr(errors, name)()), {})

    def test_they_are_told_apart(self):
        for name in PLAIN:
            with self.subTest(name):
                with self.assertRaises(getattr(errors, name)):
                    raise getattr(errors, name)("words")


if __name__ == "__main__":
    unittest.main()
