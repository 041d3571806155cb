import unittest

from everframe import errors

BASES = {
    "FrameError": (ValueError, ()),
    "InvalidLead": (errors.FrameError, ("value",)),
    "InvalidWeb": (errors.FrameError, ("reason", "job")),
    "InvalidPlan": (errors.FrameError, ("part", "index")),
    "InvalidSharing": (errors.FrameError, ("index",)),
    "InvalidText": (errors.FrameError, ("line", "word")),
    "InvalidCommand": (errors.FrameError, ("word",)),
    "InvalidCertificate": (errors.FrameError, ("reason", "where")),
    "Unsettled": (errors.FrameError, ("buffer", "one", "other")),
    "NotShareable": (errors.FrameError, ("buffer", "user")),
    "NoJob": (KeyError, ("name",)),
    "NoBuffer": (KeyError, ("name",)),
    "Standstill": (RuntimeError, ("ring",)),
    "NotReady": (RuntimeError, ("job",)),
    "CannotLeaveOut": (RuntimeError, ("job",)),
    "Busy": (RuntimeError, ()),
    "TooMany": (OverflowError, ("limit",)),
    "NothingToUndo": (LookupError, ()),
    "NothingToRedo": (LookupError, ()),
}
VALUES = (None, True, 10 ** 39, "a", ("a", [1]), [{"a": ()}], {})


class TestErrors(unittest.TestCase):
    def test_bases(self):
        for name, (base, _) in BASES.items():
            self.assertEqual(getattr(errors, name).__bases__, (base,), name)

    def test_no_error_is_a_subclass_of_another_one(self):
        for name in BASES:
            for other in BASES:
                below = issubclass(getattr(errors, name), getattr(errors, other))
                frame = other == "FrameError" and BASES[name][0] is errors.FrameError
                self.assertEqual(below, name == other or frame, (name, other))

    def test_nothing_to_undo_is_no_key_error(self):
        for name in ("NothingToUndo", "NothingToRedo"):
            self.assertFalse(issubclass(getattr(errors, name), (KeyError, IndexError)))

    def test_arguments_are_kept(self):
        for name, (_, parts) in BASES.items():
            for value in VALUES:
                values = [(value, at) for at, _ in enumerate(parts)]
                by_place = getattr(errors, name)(*values)
                by_name = getattr(errors, name)(**dict(zip(parts, values)))
                for error in (by_place, by_name):
                    self.assertEqual([getattr(error, part) for part in parts], values)

    def test_single_values_of_any_kind(self):
        for value in VALUES:
            self.assertIs(errors.NoJob(value).name, value)
            self.assertIs(errors.InvalidLead(value=value).value, value)

    def test_they_can_be_raised(self):
        for name, (base, parts) in BASES.items():
            with self.assertRaises(base):
                raise getattr(errors, name)(*parts)


if __name__ == "__main__":
    unittest.main()
