import unittest

from stackquotes.kinds import is_free_name, is_name, is_plain_integer
from tests.samples_of_values import make_odd_values


class KindsTest(unittest.TestCase):
    def test_true_and_false_are_no_integers(self):
        self.assertEqual([is_plain_integer(True), is_plain_integer(False)], [False, False])

    def test_integers(self):
        for value in (0, 1, -1, 10 ** 19, -10 ** 19):
            with self.subTest(value=value):
                self.assertIs(is_plain_integer(value), True)

    def test_everything_else_is_no_integer(self):
        for value in make_odd_values() + ["", "1"]:
            if type(value) is not int:
                with self.subTest(value=value):
                    self.assertIs(is_plain_integer(value), False)

    def test_names(self):
        for value in ("a", "z", "abcdefgh", "call", "choose"):
            with self.subTest(value=value):
                self.assertIs(is_name(value), True)

    def test_everything_else_is_no_name(self):
        for value in make_odd_values() + ["", "abcdefghi", "A", "a1", "\u00e9", "a\n"]:
            with self.subTest(value=value):
                self.assertIs(is_name(value), False)
                self.assertIs(is_free_name(value), False)

    def test_core_words_are_not_free(self):
        for value in ("call", "dip", "curry", "compose", "choose"):
            with self.subTest(value=value):
                self.assertIs(is_free_name(value), False)
        self.assertIs(is_free_name("dup"), True)


if __name__ == "__main__":
    unittest.main()
