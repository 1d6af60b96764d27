import unittest

from stackquotes import errors
from tests.samples_of_values import make_odd_values

PYTHON_BASES = {
    "InputError": ValueError, "ProgramError": TypeError,
    "LibraryError": LookupError, "SizeError": ArithmeticError,
}

# For each base: the attribute of its classes, or None, and their names.
CLASSES = {
    "InputError": (
        ("value", ("NotAVocabulary", "NotAProgram", "NotALibrary", "InvalidText", "InvalidPlace",
                   "InvalidFunctions", "InvalidResult", "InvalidName", "InvalidRow")),
        ("index", ("InvalidEntries", "InvalidStack", "InvalidWords", "InvalidDeeds")),
    ),
    "ProgramError": (("index", ("NoEffect",)), (None, ("Mismatch", "HigherOrder"))),
    "LibraryError": (
        ("value", ("NameTaken", "NameMissing", "NameUsed", "NotEquivalent")),
        (None, ("NothingToUndo", "Busy")),
    ),
    "SizeError": (
        ("limit", ("TooLarge", "TooDeep", "TooLong", "TooManyCases", "TooManyDefinitions", "TooShort")),
    ),
}

ATTRIBUTES = ("value", "index", "limit")


def listed_classes():
    """Return a row (name, base, attribute) for every class that the interface lists below a base."""
    return [
        (name, base, attribute)
        for base, groups in CLASSES.items() for attribute, names in groups for name in names
    ]


def make_error(name, attribute, value="f"):
    made = getattr(errors, name)
    return made() if attribute is None else made(value)


class StoredArgumentTest(unittest.TestCase):
    def with_attribute(self):
        return [(name, attribute) for name, base, attribute in listed_classes() if attribute is not None]

    def test_an_argument_by_position_is_kept(self):
        for name, attribute in self.with_attribute():
            for value in make_odd_values() + ["", "f"]:
                with self.subTest(name=name, value=value):
                    self.assertIs(getattr(make_error(name, attribute, value), attribute), value)

    def test_an_argument_by_keyword_is_kept(self):
        for name, attribute in self.with_attribute():
            for value in make_odd_values() + ["", "f"]:
                with self.subTest(name=name, value=value):
                    error = getattr(errors, name)(**{attribute: value})
                    self.assertIs(getattr(error, attribute), value)

    def test_it_is_the_only_argument(self):
        for name, attribute in self.with_attribute():
            with self.subTest(name=name):
                made = getattr(errors, name)
                self.assertRaises(TypeError, made)
                self.assertRaises(TypeError, made, 1, 2)
                for other in ATTRIBUTES:
                    if other != attribute:
                        self.assertRaises(TypeError, made, **{other: 1})

    def test_no_other_attribute_is_set(self):
        for name, base, attribute in listed_classes():
            with self.subTest(name=name):
                expected = {} if attribute is None else {attribute: "f"}
                self.assertEqual(vars(make_error(name, attribute)), expected)

    def test_two_errors_do_not_share_what_they_keep(self):
        for name, attribute in self.with_attribute():
            with self.subTest(name=name):
                first = make_error(name, attribute, 1)
                second = make_error(name, attribute, 2)
                self.assertEqual([getattr(first, attribute), getattr(second, attribute)], [1, 2])


class AncestryTest(unittest.TestCase):
    def own_classes(self):
        return {name: made for name, made in vars(errors).items() if isinstance(made, type)}

    def test_exactly_the_listed_classes_exist(self):
        names = [name for name, base, attribute in listed_classes()] + list(PYTHON_BASES)
        self.assertEqual(sorted(self.own_classes()), sorted(names))

    def test_each_class_is_defined_in_the_module(self):
        for name, made in self.own_classes().items():
            with self.subTest(name=name):
                self.assertEqual((made.__module__, made.__name__), ("stackquotes.errors", name))

    def test_an_error_belongs_to_its_base_and_to_no_other_class(self):
        for name, base, attribute in listed_classes():
            with self.subTest(name=name):
                error = make_error(name, attribute)
                kinds = sorted(other for other, made in self.own_classes().items() if isinstance(error, made))
                self.assertEqual(kinds, sorted([name, base]))
                self.assertIsInstance(error, PYTHON_BASES[base])

    def test_each_base_derives_from_its_python_class_directly(self):
        for name, python_base in PYTHON_BASES.items():
            with self.subTest(name=name):
                self.assertEqual(getattr(errors, name).__bases__, (python_base,))

    def test_an_error_belongs_to_no_other_python_class_of_a_base(self):
        for name, base, attribute in listed_classes():
            with self.subTest(name=name):
                error = make_error(name, attribute)
                kinds = [other for other, made in PYTHON_BASES.items() if isinstance(error, made)]
                self.assertEqual(kinds, [base])

    def test_each_error_can_be_caught_by_its_base(self):
        for name, base, attribute in listed_classes():
            with self.subTest(name=name):
                error = make_error(name, attribute)
                with self.assertRaises(getattr(errors, base)) as caught:
                    raise error
                self.assertIs(caught.exception, error)

    def test_bases_are_made_without_arguments_and_store_nothing(self):
        for name in PYTHON_BASES:
            with self.subTest(name=name):
                self.assertEqual(vars(getattr(errors, name)()), {})


class GeneralRulesTest(unittest.TestCase):
    def test_errors_can_be_compared_with_anything(self):
        for name, base, attribute in listed_classes():
            for value in make_odd_values():
                with self.subTest(name=name, value=value):
                    error = make_error(name, attribute)
                    self.assertIs(error == value, False)
                    self.assertIs(error != value, True)

    def test_errors_are_true(self):
        for name, base, attribute in listed_classes():
            with self.subTest(name=name):
                self.assertIs(bool(make_error(name, attribute, 0)), True)


if __name__ == "__main__":
    unittest.main()
