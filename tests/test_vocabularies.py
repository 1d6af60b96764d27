import itertools
import unittest

from stackquotes.errors import InvalidEntries, InvalidName, InvalidText
from stackquotes.vocabularies import Vocabulary
from tests.samples_of_values import make_odd_values

CORE_WORDS = ("call", "dip", "curry", "compose", "choose")

WRONG_NAMES = (
    "", "abcdefghi", "f" * 2000, "F", "Fg", "fG", "f1", "1", "f ", " f", "f g", " ", "f\n", "\n", "f-", "f_", "_",
    "f,", "*", "[", "(a-a)", "\u00e9", "f\u00e9", "\u00df", "\u0430", "\uff46", "\u017f", "\u00aa", "f\u0301", "\x00",
    "\ud800",
)

WRONG_NUMBERS = (
    -1, 4, 5, -3, 10, 10 ** 19, -10 ** 19, True, False, None, "", "0", "1", b"1", (), (1,), [], [1], {}, {1}, object(),
    int, len, Vocabulary(),
)

LARGEST = tuple(("abcdefg" + letter, 3, 3) for letter in "hgfedcba")


class MadeVocabularyTest(unittest.TestCase):
    def setUp(self):
        self.words = Vocabulary(("g", 0, 2), ("f", 2, 1))

    def test_names_are_a_tuple_in_ascending_order(self):
        self.assertEqual(self.words.names, ("f", "g"))
        self.assertIs(type(self.words.names), tuple)
        entries = (("b", 0, 0), ("ab", 1, 1), ("z", 2, 2), ("a", 3, 3))
        for row in itertools.permutations(entries):
            with self.subTest(row=row):
                self.assertEqual(Vocabulary(*row).names, ("a", "ab", "b", "z"))
        self.assertEqual(Vocabulary().names, ())

    def test_arity_is_the_pair_of_inputs_and_outputs(self):
        self.assertEqual([self.words.arity("f"), self.words.arity("g")], [(2, 1), (0, 2)])
        self.assertIs(type(self.words.arity("f")), tuple)

    def test_arity_by_keyword(self):
        self.assertEqual(self.words.arity(name="g"), (0, 2))

    def test_all_numbers_from_0_to_3_are_possible(self):
        for inputs in range(4):
            for outputs in range(4):
                words = Vocabulary(("f", inputs, outputs))
                with self.subTest(words=words):
                    self.assertEqual(words.arity("f"), (inputs, outputs))
                    self.assertEqual(str(words), f"f {inputs} {outputs}")

    def test_arity_refuses_everything_that_is_not_a_name_in_it(self):
        for words in (self.words, Vocabulary()):
            for name in make_odd_values() + ["", "h", "F", "f ", "ff", "f 2 1", "fg", "call", "f, g"]:
                with self.subTest(words=words, name=name):
                    with self.assertRaises(InvalidName) as caught:
                        words.arity(name)
                    self.assertIs(caught.exception.value, name)

    def test_arity_refuses_by_keyword_too(self):
        with self.assertRaises(InvalidName) as caught:
            self.words.arity(name=["f"])
        self.assertEqual(caught.exception.value, ["f"])

    def test_str(self):
        self.assertEqual(str(self.words), "f 2 1, g 0 2")
        self.assertEqual(str(Vocabulary(("h", 0, 1))), "h 0 1")
        self.assertEqual(str(Vocabulary()), "")

    def test_repr(self):
        self.assertEqual(repr(self.words), "Vocabulary(f 2 1, g 0 2)")
        self.assertEqual(repr(Vocabulary()), "Vocabulary()")

    def test_len(self):
        self.assertEqual([len(Vocabulary()), len(self.words), len(Vocabulary(*LARGEST))], [0, 2, 8])

    def test_only_the_empty_vocabulary_is_false(self):
        self.assertIs(bool(Vocabulary()), False)
        self.assertIs(bool(Vocabulary(("f", 0, 0))), True)
        self.assertIs(bool(self.words), True)

    def test_the_largest_vocabulary(self):
        words = Vocabulary(*LARGEST)
        self.assertEqual(words.names, tuple("abcdefg" + letter for letter in "abcdefgh"))
        self.assertEqual(words.arity("abcdefgh"), (3, 3))

    def test_names_that_only_resemble_core_words_are_accepted(self):
        names = ("calls", "cal", "di", "dips", "dup", "composes", "chose", "curryy")
        self.assertEqual(len(Vocabulary(*[(name, 1, 1) for name in names])), 8)

    def test_every_letter_is_accepted(self):
        for letter in "abcdefghijklmnopqrstuvwxyz":
            with self.subTest(letter=letter):
                self.assertEqual(Vocabulary((letter, 0, 0)).names, (letter,))


class EqualityTest(unittest.TestCase):
    def assert_equal_both_ways(self, one, other):
        self.assertEqual([one == other, other == one, one != other, other != one], [True, True, False, False])

    def assert_different_both_ways(self, one, other):
        self.assertEqual([one == other, other == one, one != other, other != one], [False, False, True, True])

    def test_the_order_of_the_entries_does_not_matter(self):
        entries = (("f", 2, 1), ("g", 0, 2), ("h", 1, 1))
        for row in itertools.permutations(entries):
            with self.subTest(row=row):
                self.assert_equal_both_ways(Vocabulary(*entries), Vocabulary(*row))

    def test_empty_vocabularies_are_equal(self):
        self.assert_equal_both_ways(Vocabulary(), Vocabulary())

    def test_other_entries_make_a_difference(self):
        words = Vocabulary(("f", 2, 1), ("g", 0, 2))
        others = (
            Vocabulary(("f", 1, 1), ("g", 0, 2)), Vocabulary(("f", 2, 0), ("g", 0, 2)),
            Vocabulary(("f", 1, 2), ("g", 0, 2)), Vocabulary(("f", 2, 1), ("g", 0, 3)),
            Vocabulary(("f", 2, 1), ("h", 0, 2)), Vocabulary(("e", 2, 1), ("g", 0, 2)),
            Vocabulary(("f", 0, 2), ("g", 2, 1)), Vocabulary(("f", 2, 1)), Vocabulary(("g", 0, 2)),
            Vocabulary(("f", 2, 1), ("g", 0, 2), ("h", 0, 0)), Vocabulary(),
        )
        for other in others:
            with self.subTest(other=other):
                self.assert_different_both_ways(words, other)

    def test_a_vocabulary_is_equal_to_nothing_else(self):
        values = [value for value in make_odd_values() if not isinstance(value, Vocabulary)]
        for value in values + ["", "f 2 1", "Vocabulary(f 2 1)", (("f", 2, 1),)]:
            for words in (Vocabulary(), Vocabulary(("f", 2, 1))):
                with self.subTest(words=words, value=value):
                    self.assert_different_both_ways(words, value)

    def test_it_does_not_ask_the_other_value(self):
        class EqualToAll:
            def __eq__(self, other):
                return True

        self.assertIs(Vocabulary() == EqualToAll(), False)
        self.assertIs(Vocabulary() != EqualToAll(), True)


class RefusedEntriesTest(unittest.TestCase):
    def assert_refused(self, index, *entries):
        with self.subTest(entries=entries):
            with self.assertRaises(InvalidEntries) as caught:
                Vocabulary(*entries)
            self.assertEqual(caught.exception.index, index)
            self.assertIs(type(caught.exception.index), type(index))

    def assert_entry_refused(self, entry):
        self.assert_refused(0, entry)
        self.assert_refused(1, ("a", 0, 0), entry)
        self.assert_refused(2, ("a", 0, 0), ("b", 3, 3), entry, entry, ("call", 0, 0))

    def test_an_entry_that_is_not_a_triple(self):
        triples = [value for value in make_odd_values() if value == ("f", 2, 1)]
        self.assertEqual(len(triples), 1)
        for entry in make_odd_values():
            if entry != ("f", 2, 1):
                self.assert_entry_refused(entry)
        for entry in ("", "f", "f21", "f 2 1", ("f", 2), ("f", 2, 1, 0), ("f", 2, 1, None), ("f", (2, 1)), ("f",) * 3):
            self.assert_entry_refused(entry)

    def test_a_core_word(self):
        for name in CORE_WORDS:
            self.assert_entry_refused((name, 1, 1))

    def test_something_that_is_not_a_name(self):
        for name in WRONG_NAMES:
            self.assert_entry_refused((name, 1, 1))
        for name in make_odd_values():
            self.assert_entry_refused((name, 1, 1))

    def test_a_wrong_number(self):
        for number in WRONG_NUMBERS:
            self.assert_entry_refused(("f", number, 1))
            self.assert_entry_refused(("f", 1, number))

    def test_a_repeated_name(self):
        self.assert_refused(1, ("f", 2, 1), ("f", 2, 1))
        self.assert_refused(1, ("f", 2, 1), ("f", 0, 0))
        self.assert_refused(3, ("f", 2, 1), ("g", 0, 0), ("h", 0, 0), ("g", 1, 1), ("f", 1, 1))
        self.assert_refused(7, *LARGEST[:7], LARGEST[0])

    def test_the_first_fault_counts_whatever_it_is(self):
        self.assert_refused(1, ("f", 2, 1), ("f", 2, 1), ("call", 0, 0), None)
        self.assert_refused(1, ("f", 2, 1), ("g", 4, 0), ("f", 2, 1))
        self.assert_refused(1, ("f", 2, 1), ("f", 9, 9))
        self.assert_refused(2, ("f", 2, 1), ("g", 2, 1), [], ("f", 2, 1))

    def test_nine_entries_are_refused_ahead_of_everything_else(self):
        self.assert_refused(None, *LARGEST, ("f", 2, 1))
        self.assert_refused(None, *LARGEST, LARGEST[0])
        self.assert_refused(None, *[None] * 9)
        self.assert_refused(None, ("call", 0, 0), *LARGEST)
        self.assert_refused(None, *[("f", 2, 1)] * 20)

    def test_eight_entries_of_which_one_is_wrong(self):
        self.assert_refused(7, *LARGEST[:7], ("call", 1, 1))
        self.assert_refused(0, ("f", 0, 4), *LARGEST[:7])

    def test_entries_are_gathered_and_have_no_keyword(self):
        self.assertRaises(TypeError, lambda: Vocabulary(entries=()))


class ReadTest(unittest.TestCase):
    def assert_refused(self, text):
        with self.subTest(text=text):
            with self.assertRaises(InvalidText) as caught:
                Vocabulary.read(text)
            self.assertIs(caught.exception.value, text)

    def test_the_text_of_a_vocabulary_is_read_back(self):
        samples = (
            Vocabulary(), Vocabulary(("f", 0, 0)), Vocabulary(("g", 0, 2), ("f", 2, 1)),
            Vocabulary(("b", 3, 3), ("ab", 1, 2), ("a", 0, 3)), Vocabulary(*LARGEST),
        )
        for words in samples:
            with self.subTest(words=words):
                again = Vocabulary.read(str(words))
                self.assertIs(type(again), Vocabulary)
                self.assertEqual(again, words)
                self.assertEqual((str(again), again.names), (str(words), words.names))

    def test_what_is_read_has_its_arities(self):
        words = Vocabulary.read("f 2 1, g 0 3")
        self.assertEqual([words.arity("f"), words.arity("g"), len(words)], [(2, 1), (0, 3), 2])

    def test_read_by_keyword(self):
        self.assertEqual(Vocabulary.read(text="f 2 1"), Vocabulary(("f", 2, 1)))
        self.assertEqual(Vocabulary.read(text=""), Vocabulary())
        with self.assertRaises(InvalidText) as caught:
            Vocabulary.read(text="f 2")
        self.assertEqual(caught.exception.value, "f 2")

    def test_read_is_also_called_off_an_object(self):
        self.assertEqual(Vocabulary().read("f 2 1"), Vocabulary(("f", 2, 1)))

    def test_other_spaces_and_commas(self):
        texts = (
            " ", ",", ", ", "\n", " f 2 1", "f 2 1 ", "f 2 1\n", "f  2 1", "f 2  1", "f 2\t1", "f\u00a02 1", "f 2 1,",
            "f 2 1, ", ", f 2 1", ",f 2 1", "f 2 1,g 0 2", "f 2 1 g 0 2", "f 2 1,  g 0 2", "f 2 1 , g 0 2",
            "f 2 1, , g 0 2", "f 2 1,, g 0 2", "f 2 1; g 0 2", "f, 2, 1", "f,2,1", "f 2 1,\ng 0 2", "f 2 1, g 0 2, ",
        )
        for text in texts:
            self.assert_refused(text)

    def test_other_orders_and_repeated_names(self):
        for text in ("g 0 2, f 2 1", "a 0 0, c 0 0, b 0 0", "f 2 1, f 2 1", "f 2 1, f 0 0", "b 0 0, ab 0 0"):
            self.assert_refused(text)

    def test_wrong_numbers(self):
        numbers = (
            "4", "9", "10", "-1", "-0", "+1", "+0", "00", "01", "03", "1.0", "1_0", "0x1", "x", "True", "None", "",
            "\u0661", "\u00b2", "\uff11",
        )
        for number in numbers:
            self.assert_refused(f"f {number} 1")
            self.assert_refused(f"f 1 {number}")
            self.assert_refused(f"a 1 1, f {number} 1")

    def test_wrong_names(self):
        for name in CORE_WORDS + WRONG_NAMES:
            self.assert_refused(f"{name} 1 1")
            self.assert_refused(f"a 1 1, {name} 1 1")

    def test_other_forms(self):
        texts = (
            "f", "f 2", "f 2 1 0", "2 1 f", "f g h", "f 2 1, g", "f(2,1)", "f21", "Vocabulary()", "Vocabulary(f 2 1)",
            "(f 2 1)", "('f', 2, 1)",
        )
        for text in texts:
            self.assert_refused(text)

    def test_nine_entries(self):
        entries = [f"{letter} 1 1" for letter in "abcdefghi"]
        self.assertEqual(len(Vocabulary.read(", ".join(entries[:8]))), 8)
        self.assert_refused(", ".join(entries))
        self.assert_refused(", ".join(["a 1 1"] * 200))

    def test_values_that_are_no_strings(self):
        for value in make_odd_values():
            self.assert_refused(value)


class InterfaceTest(unittest.TestCase):
    def test_the_class_is_defined_in_its_file_with_its_methods(self):
        self.assertEqual(Vocabulary.__module__, "stackquotes.vocabularies")
        for name in ("__init__", "read", "arity", "__str__", "__repr__", "__len__", "__eq__"):
            with self.subTest(name=name):
                self.assertIn(name, vars(Vocabulary))
        self.assertIsInstance(vars(Vocabulary)["read"], staticmethod)

    def test_names_are_set_when_the_object_is_created(self):
        self.assertTrue(hasattr(Vocabulary(), "names"))


if __name__ == "__main__":
    unittest.main()
