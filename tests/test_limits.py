import unittest

from stackquotes import limits


class LimitsTest(unittest.TestCase):
    def test_each_limit_has_its_value(self):
        expected = {
            "MOST_ENTRIES": 8, "MOST_SIZE": 60, "MOST_NESTED": 6, "MOST_TEXT": 2000,
            "MOST_CASES": 64, "MOST_SEARCHED": 4, "MOST_DEFINITIONS": 20,
        }
        for name, number in expected.items():
            with self.subTest(name=name):
                limit = getattr(limits, name)
                self.assertIs(type(limit), int)
                self.assertEqual(limit, number)


if __name__ == "__main__":
    unittest.main()
