import unittest

from windowpicks import errors

WITH_PLACE = ["InvalidText", "InvalidLetters", "InvalidLot", "Refused"]
WITH_NOTHING = ["InvalidOrder", "InvalidEdit", "InvalidCommand"]
ALL = ["InvalidRule"] + WITH_PLACE + WITH_NOTHING


class Thing:
    """Something that cannot be shown, copied, compared or asked whether it is true."""

    def refuse(self, *rest):
        raise AssertionError("asked")

    __str__ = __repr__ = __eq__ = __bool__ = __hash__ = __copy__ = __deepcopy__ = refuse


class Errors(unittest.TestCase):
    def test_the_family(self):
        self.assertEqual(errors.PickError.__bases__, (ValueError,))
        for name in ALL:
            self.assertEqual(getattr(errors, name).__bases__, (errors.PickError,), name)

    def test_arguments_are_kept_themselves(self):
        things = [0, -7, 10 ** 40, None, True, "w", "", [1, [2]], (), {}, {"a": []}, Thing(), Thing, 1.5]
        for name, attribute in [("InvalidRule", "word")] + [(name, "at") for name in WITH_PLACE]:
            made = getattr(errors, name)
            for thing in things:
                self.assertIs(getattr(made(thing), attribute), thing)
                self.assertIs(getattr(made(**{attribute: thing}), attribute), thing)

    def test_each_has_its_arguments_and_no_others(self):
        for name in ["InvalidRule"] + WITH_PLACE:
            made = getattr(errors, name)
            for arguments in [(), (1, 2)]:
                with self.assertRaises(TypeError):
                    made(*arguments)
        with self.assertRaises(TypeError):
            errors.InvalidRule(at=1)
        with self.assertRaises(TypeError):
            errors.Refused(word=1)

    def test_those_without_arguments(self):
        for name in WITH_NOTHING:
            made = getattr(errors, name)
            with self.assertRaises(made):
                raise made()
            self.assertFalse(hasattr(made(), "at"))

    def test_they_are_caught_by_their_names(self):
        with self.assertRaises(errors.InvalidLetters) as caught:
            raise errors.InvalidLetters(3)
        self.assertEqual(caught.exception.at, 3)
        with self.assertRaises(ValueError):
            raise errors.InvalidRule("k")
