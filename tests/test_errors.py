"""The errors of the package ([0.2])."""

import inspect
import unittest

from firstsafe import errors
from tests.helper import same

NAMES = """
NoInverse BadGround BadBatch BadBatches BadLengths TooMany BadForm BadShelf BadPlace BadWeaving BadReading Missing
BadStop Short BadMany BadBook BadNames BadText BadNumber NoName Twice BadTold BadEvents Full BadEquations Open BadRows
NotSo BadLaying BadCharter Hopeless BadPoints BadVolume NotAt Long BadCell BadPoint BadTape BadFigures BadGroup There
BadState TooGreat Old NotWhole Left BadCharters NoCharter NoVolume Damaged
""".split()


class Errors(unittest.TestCase):
    def test_refused_stands_under_value_error(self):
        self.assertEqual(errors.Refused.__bases__, (ValueError,))

    def test_each_stands_directly_under_refused(self):
        for name in NAMES:
            self.assertEqual(getattr(errors, name).__bases__, (errors.Refused,), name)

    def test_exactly_the_classes_of_the_interface(self):
        found = [name for name, thing in vars(errors).items() if inspect.isclass(thing)]
        self.assertEqual(sorted(found), sorted(NAMES + ["Refused"]))
        for name in found:
            self.assertEqual(getattr(errors, name).__module__, "firstsafe.errors")

    def test_each_keeps_its_one_argument(self):
        for name in NAMES + ["Refused"]:
            for what in (-1, 0, True, None, "a", (2, 3), (-1, "name")):
                same(self, getattr(errors, name)(what).what, what)
                same(self, getattr(errors, name)(what=what).what, what)
            with self.assertRaises(TypeError):
                getattr(errors, name)()
            with self.assertRaises(TypeError):
                getattr(errors, name)(1, 2)

    def test_each_can_be_caught_as_refused_and_as_value_error(self):
        for name in NAMES:
            for above in (errors.Refused, ValueError):
                with self.assertRaises(above):
                    raise getattr(errors, name)(0)


if __name__ == "__main__":
    unittest.main()
