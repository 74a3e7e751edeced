import inspect
import unittest

from cutrows import errors

TABLE = {
    "InvalidProgram": (ValueError, "index"),
    "InvalidPicks": (ValueError, None),
    "InvalidPrices": (ValueError, None),
    "InvalidClaim": (ValueError, None),
    "NotAllowed": (ValueError, "place"),
    "ParseError": (ValueError, "line"),
    "UnknownItem": (LookupError, "index"),
    "UnknownPrice": (LookupError, "which"),
    "UnknownCheckpoint": (LookupError, "number"),
    "UnknownRecord": (LookupError, "number"),
    "TooGreat": (OverflowError, "limit"),
    "LimitExceeded": (OverflowError, "limit"),
}
VALUES = (0, 16, -3, None, True, "x", (1, ("a",)), [1], {"k": [2]}, 10**29)


class TestErrors(unittest.TestCase):
    def test_all_are_there_and_no_others(self):
        found = [name for name, value in vars(errors).items() if inspect.isclass(value)]
        self.assertEqual(sorted(found), sorted(TABLE))

    def test_each_is_a_direct_subclass_of_its_built_in_error(self):
        for name, (base, _) in TABLE.items():
            self.assertEqual(getattr(errors, name).__bases__, (base,), name)

    def test_none_is_a_subclass_of_another_one(self):
        for one in TABLE:
            for two in TABLE:
                if one != two:
                    self.assertFalse(issubclass(getattr(errors, one), getattr(errors, two)), (one, two))

    def test_each_is_defined_in_its_file(self):
        for name in TABLE:
            self.assertEqual(getattr(errors, name).__module__, "cutrows.errors")

    def test_arguments_are_kept_by_position(self):
        for name, (_, argument) in TABLE.items():
            for value in VALUES if argument else ():
                error = getattr(errors, name)(value)
                self.assertIs(getattr(error, argument), value)
                self.assertEqual(vars(error), {argument: value})

    def test_arguments_are_kept_by_name(self):
        for name, (_, argument) in TABLE.items():
            for value in VALUES if argument else ():
                error = getattr(errors, name)(**{argument: value})
                self.assertIs(getattr(error, argument), value)

    def test_each_takes_just_its_arguments(self):
        for name, (_, argument) in TABLE.items():
            if argument:
                self.assertRaises(TypeError, getattr(errors, name))
                self.assertRaises(TypeError, getattr(errors, name), 1, 2)
            else:
                self.assertEqual(vars(getattr(errors, name)()), {})

    def test_each_can_be_raised_and_caught(self):
        for name, (base, argument) in TABLE.items():
            error = getattr(errors, name)
            with self.assertRaises(base) as caught:
                raise error(7) if argument else error()
            self.assertIs(type(caught.exception), error)


if __name__ == "__main__":
    unittest.main()
