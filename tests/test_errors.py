"""The error classes: what they derive from and what they keep."""

from unittest import TestCase

from gatheryard.errors import BadLine, CanNot, NoPlace, NothingDone, TooMuch, Unfit


class ErrorsTest(TestCase):

    def test_each_is_directly_under_its_builtin_class(self):
        bases = {NoPlace: LookupError, NothingDone: LookupError, BadLine: ValueError, CanNot: ValueError,
                 TooMuch: ValueError, Unfit: ValueError}
        for own, base in bases.items():
            self.assertEqual(own.__bases__, (base,), own)
            self.assertEqual(own.__module__, "gatheryard.errors")

    def test_values_are_kept_under_their_names(self):
        self.assertEqual(vars(NoPlace(7)), {"place": 7})
        self.assertEqual(NoPlace(place=-1).place, -1)
        self.assertEqual(vars(BadLine(3)), {"line": 3})
        self.assertEqual(BadLine(line=4).line, 4)

    def test_the_others_take_no_values(self):
        for own in (NothingDone, CanNot, TooMuch, Unfit):
            self.assertEqual(vars(own()), {})
            with self.assertRaises(own):
                raise own()

    def test_values_must_be_passed(self):
        for own in (NoPlace, BadLine):
            with self.assertRaises(TypeError):
                own()
