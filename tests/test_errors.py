import unittest

from treeworks import errors
from treeworks.errors import WorkError

ATTRIBUTES = {
    "BadTerm": ("term",), "NoPlace": ("path",), "BadCount": ("count",), "BadName": ("name",),
    "BadTable": ("row", "reason"), "BadLine": ("line",), "BadBlock": ("line",), "Unknown": ("name",),
    "Repeated": ("name",), "WrongTree": ("path",), "WrongSign": ("at", "expected"), "BadIndex": ("index",),
    "BadStage": ("index",), "BadState": ("index", "reason"), "BadRow": ("state", "row", "reason"),
    "Uncovered": ("state", "tree"), "Mismatch": (), "LimitExceeded": ("limit",), "NoTree": (), "NotApart": (),
    "BadCertificate": ("line",), "BadPack": ("at",), "BadPatch": ("index",), "NotRight": (), "NothingLeft": (),
}


class ErrorsTest(unittest.TestCase):
    def test_work_error_is_a_value_error(self):
        self.assertEqual(WorkError.__bases__, (ValueError,))

    def test_all_errors_stand_directly_under_work_error(self):
        listed = {name for name, value in vars(errors).items() if isinstance(value, type)}
        self.assertEqual(listed, set(ATTRIBUTES) | {"WorkError"})
        for name in ATTRIBUTES:
            self.assertEqual(getattr(errors, name).__bases__, (WorkError,), name)

    def test_attributes(self):
        for name, attributes in ATTRIBUTES.items():
            values = [f"value {at}" for at in range(len(attributes))]
            error = getattr(errors, name)(*values)
            self.assertEqual(vars(error), dict(zip(attributes, values)), name)
            named = getattr(errors, name)(**dict(zip(attributes, values)))
            self.assertEqual(vars(named), dict(zip(attributes, values)), name)


if __name__ == "__main__":
    unittest.main()
