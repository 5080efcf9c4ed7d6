"""[0.2]: the list of errors, how they stand under one another, and their what."""

import inspect
import unittest

from onlyforced import errors

NAMES = """
BadSizes BadPage BadEdit BadSetting BadLot NoPage BadTable CannotMeet BadPairs NotWritable TooMany
NotLawful BadGrants BadMany BadScript BadBook BadSaying Unlike BadWorth HasPage BadRow BadLetter
BadHouse NotKept Narrow BadWrite BadLots BadManner Full NoLetter NotTorn Torn Fixed BadStamp
HasStamp NoStamp AlreadyOut NotOut BadStamps NothingBack NothingAgain BadWishes Unmet Quarrel
BadVisits BadEdits BadText NoName NoWorth Twice TooDeep BadNames NotPairs
""".split()


class ErrorsTest(unittest.TestCase):
    def test_the_list_is_whole(self):
        found = [
            name for name, thing in vars(errors).items()
            if inspect.isclass(thing) and thing.__module__ == "onlyforced.errors"
        ]
        self.assertEqual(sorted(found), sorted(NAMES + ["Refused"]))
        self.assertEqual(len(NAMES), 53)

    def test_refused_stands_under_value_error(self):
        self.assertTrue(issubclass(errors.Refused, ValueError))

    def test_each_stands_under_refused(self):
        for name in NAMES:
            self.assertTrue(issubclass(getattr(errors, name), errors.Refused), name)

    def test_none_stands_under_another_one(self):
        for one in NAMES:
            for two in NAMES:
                if one != two:
                    self.assertFalse(issubclass(getattr(errors, one), getattr(errors, two)), (one, two))

    def test_each_keeps_its_one_argument(self):
        for name in NAMES + ["Refused"]:
            error = getattr(errors, name)
            for what in (-1, 0, 7, None, True, "text", (), (0, 2), ((1, 2), "a")):
                self.assertIs(error(what).what, what)
                self.assertIs(error(what=what).what, what)

    def test_each_is_made_from_just_one_argument(self):
        for name in NAMES + ["Refused"]:
            error = getattr(errors, name)
            self.assertRaises(TypeError, error)
            self.assertRaises(TypeError, error, 1, 2)

    def test_each_is_raised_and_caught(self):
        for name in NAMES:
            with self.assertRaises(errors.Refused) as caught:
                raise getattr(errors, name)(3)
            self.assertEqual(caught.exception.what, 3)


if __name__ == "__main__":
    unittest.main()
