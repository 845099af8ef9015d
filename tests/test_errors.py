"""Point 6 and the interface of blindtwins/errors.py."""

import inspect
import unittest

from blindtwins import errors

NAMES = """BadSize BadLot BadLots BadOrder Unlike TooMany BadPrices BadClutter BadDisks BadPlace
BadCount BadFalls BadHands BadSecrets BadGroup BadName BadNames BadLook BadLooks BadWire BadScript
BadBits BadDeed Lost BadHearers NoWord BadList Fallen Standing Blind BadDeeds BadLog BadText""".split()


class TestErrors(unittest.TestCase):

    def test_base_class(self):
        self.assertEqual(errors.BlindError.__bases__, (ValueError,))

    def test_direct_subclasses(self):
        for name in NAMES:
            with self.subTest(name=name):
                error = getattr(errors, name)
                self.assertEqual(error.__bases__, (errors.BlindError,))
                self.assertEqual(error.__module__, "blindtwins.errors")
                self.assertEqual(error.__name__, name)

    def test_no_other_classes(self):
        found = [name for name, thing in vars(errors).items() if inspect.isclass(thing)]
        self.assertEqual(sorted(found), sorted(NAMES + ["BlindError"]))

    def test_what(self):
        for name in NAMES + ["BlindError"]:
            error = getattr(errors, name)
            value = [1, (2,)]
            with self.subTest(name=name):
                self.assertIsNone(error().what)
                self.assertIs(error(value).what, value)
                self.assertIs(error(what=value).what, value)
                with self.assertRaises(TypeError):
                    error(1, 2)

    def test_caught_by_the_bases(self):
        for base in (errors.BlindError, ValueError):
            with self.assertRaises(base) as caught:
                raise errors.BadLot((3,))
            self.assertEqual(caught.exception.what, (3,))


if __name__ == "__main__":
    unittest.main()
