"""[2] and gridfile/errors.py: the families of errors and their fields."""

import unittest

from gridfile import errors

FAMILIES = {
    "GridError": (ValueError, {
        ("given",): """BadPlace BadRectangle BadLine BadSheetName BadWord BadValue BadStyle BadFile BadBook BadSheet
            BadEdit BadNumber BadPath BadMap BadThings BadTree BadForm BadFrozen BadActive BadHidden""",
        ("place",): "BadFormula",
        ("at",): "BadCells BadMerges BadColumns BadRows BadLinks BadSheets BadNames BadTable BadPaper",
    }),
    "Absent": (LookupError, {
        ("given",): "NoSheet NoName NoMerge",
        ("path", "number"): "NoLine",
        ("path",): "NoPart",
        ("done",): "NothingToUndo",
    }),
    "Refused": (RuntimeError, {
        ("most",): "TooMuch",
        ("word",): "TooGreat Conflict",
        ("ring",): "RingOfNames",
        ("given",): "Taken Dangling StillActive",
        ("place",): "PastBorder Covered",
    }),
}


def each_class():
    for family, (python, kinds) in FAMILIES.items():
        for fields, names in kinds.items():
            for name in names.split():
                yield getattr(errors, family), python, getattr(errors, name), fields


class Errors(unittest.TestCase):
    def test_families_and_the_errors_of_python_behind_them(self):
        for family, python, kind, _ in each_class():
            self.assertEqual(family.__bases__, (python,))
            self.assertTrue(issubclass(kind, family), kind)
            others = {ValueError, LookupError, RuntimeError} - {python}
            self.assertFalse(issubclass(kind, tuple(others)), kind)

    def test_fields_by_position(self):
        for _, _, kind, fields in each_class():
            told = [object() for _ in fields]
            error = kind(*told)
            self.assertEqual([getattr(error, field) for field in fields], told)

    def test_fields_by_name(self):
        for _, _, kind, fields in each_class():
            told = {field: object() for field in fields}
            error = kind(**told)
            self.assertEqual({field: getattr(error, field) for field in fields}, told)

    def test_both_fields_of_a_missing_line_in_any_order(self):
        error = errors.NoLine(number=3, path="links")
        self.assertEqual((error.path, error.number), ("links", 3))
        error = errors.NoLine("links", number=3)
        self.assertEqual((error.path, error.number), ("links", 3))

    def test_wrong_numbers_and_names_of_fields(self):
        for _, _, kind, fields in each_class():
            with self.assertRaises(TypeError):
                kind()
            with self.assertRaises(TypeError):
                kind(*fields, "more")
            with self.assertRaises(TypeError):
                kind(*fields[1:], other=1)

    def test_errors_are_caught_by_family_and_by_the_error_of_python(self):
        for family, python, kind, fields in each_class():
            for caught in (family, python):
                with self.assertRaises(caught):
                    raise kind(*fields)

    def test_no_other_classes(self):
        known = {kind.__name__ for _, _, kind, _ in each_class()} | set(FAMILIES)
        there = {name for name, value in vars(errors).items() if isinstance(value, type)}
        self.assertEqual(there, known)


if __name__ == "__main__":
    unittest.main()
