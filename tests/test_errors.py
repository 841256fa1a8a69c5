"""The errors of the interface: promise [17]."""

import unittest

from unithouse import errors

ARGUMENTS = {
    "BadMany": ("value",), "BadSort": ("path",), "TooGreat": ("most",), "BadMember": ("value",),
    "BadContent": ("value",), "BadName": ("value",), "SameName": ("name",), "NoFree": ("giver", "taker"),
    "BadIndex": ("value",), "BadTotal": ("value",), "BadWay": ("place",), "BadRule": ("word",),
    "BadPath": ("path",), "BadStep": ("place",), "BadWorths": ("value",), "BadTable": ("value",),
    "BadText": ("line", "word"), "BadPaper": ("word",), "Unlike": ("content",), "NothingBack": (),
    "BadKeep": ("place",),
}


class ErrorsTest(unittest.TestCase):
    def test_there_are_just_these(self):
        classes = {name for name, value in vars(errors).items() if isinstance(value, type)}
        self.assertEqual(classes, {*ARGUMENTS, "UnitError"})
        self.assertEqual(len(ARGUMENTS), 21)

    def test_each_derives_directly(self):
        self.assertEqual(errors.UnitError.__bases__, (ValueError,))
        for name in ARGUMENTS:
            self.assertEqual(getattr(errors, name).__bases__, (errors.UnitError,), name)

    def test_none_is_another_one(self):
        for name, told in ARGUMENTS.items():
            error = getattr(errors, name)(*told)
            for other in ARGUMENTS:
                self.assertEqual(isinstance(error, getattr(errors, other)), name == other)

    def test_arguments_are_attributes(self):
        values = (3, -1, True, None, "word", (1, 2), [1], {"a": 1}, 1.5, object(), {1}, 10 ** 5000)
        for name, told in ARGUMENTS.items():
            for value in values:
                passed = [value if at == 0 else (value, at) for at in range(len(told))]
                for error in (getattr(errors, name)(*passed),
                              getattr(errors, name)(**dict(zip(told, passed)))):
                    self.assertEqual([getattr(error, word) for word in told], passed)

    def test_attributes_are_the_very_values(self):
        value = [1]
        self.assertIs(errors.BadMember(value).value, value)

    def test_they_are_caught_as_unit_error(self):
        for name, told in ARGUMENTS.items():
            with self.assertRaises(errors.UnitError):
                raise getattr(errors, name)(*told)

    def test_a_wrong_number_of_arguments_is_refused(self):
        for name, told in ARGUMENTS.items():
            if told:
                with self.assertRaises(TypeError):
                    getattr(errors, name)()
