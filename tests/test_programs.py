import unittest

from stackquotes.errors import (
    InvalidPlace, InvalidText, Mismatch, NotAProgram, NotAVocabulary, TooDeep, TooLarge,
)
from stackquotes.programs import Program
from stackquotes.samples import sample_program, sample_vocabulary
from stackquotes.vocabularies import Vocabulary
from tests.samples_of_values import make_odd_values

WORDS = sample_vocabulary()
DEEPEST = "[ [ [ [ [ [ t ] ] ] ] ] ]"

GOOD_LITERALS = ("0", "1", "-1", "9", "10", "-10", "100", "999999999999999999", "-999999999999999999", "1" + "0" * 17)
WRONG_LITERALS = (
    "00", "01", "-0", "-00", "-01", "007", "+0", "+1", "--1", "-", "+", "1-", "1+1", "1" * 19, "-" + "1" * 19,
    "0" * 19, "1" + "0" * 18, "1_0", "1.0", "1.", ".5", "1e3", "0x1", "1,0", "\u0661", "\u00b2", "\uff11", "1\u0661",
)
GOOD_SHUFFLES = (
    "(-)", "(a-)", "(a-a)", "(a-aaaaaaaa)", "(z-zz)", "(ab-ba)", "(abcde-)", "(abcde-edcbaabc)", "(qwxyz-zq)",
)
WRONG_SHUFFLES = (
    "(aa-)", "(aba-ab)", "(abcdef-)", "(abcdef-a)", "(a-aaaaaaaaa)", "(abcde-abcdeabcd)", "(-a)", "(a-b)", "(ab-abc)",
    "()", "(", ")", "(a)", "(ab)", "a-a", "(a-a", "a-a)", "(a--a)", "(a-a-a)", "(-a-)", "(a-a))", "((a-a)", "(A-A)",
    "(a-A)", "(A-)", "(1-1)", "(*-*)", "(\u00e9-\u00e9)", "(a-\u00e9)", "(a\u2013a)", "(a_a)", "[a-a]", "{a-a}",
    "(a,b-b)", "(a-a).", "-(a-a)", "(a=a)", "(a>a)", "(\n-)", "(a-\n)", "(a\t-a)",
)
WRONG_NAMES = (
    "u", "ff", "tt", "F", "T", "Call", "CALL", "calls", "cal", "dips", "chooses", "dup", "swap", "f1", "f.0", "x0",
    "\u00e9", "\uff54", "t,", "t;", "*", "**", "->", "=", "'t'", '"t"', "#", "\\", "\x00", "\ud800", "t\n", "\nt",
    "t\tt", "\t", "\u00a0", "t\u00a0t", "abcdefghi", "None", "True", "s0", "a0",
)
WRONG_BRACKETS = (
    "[", "]", "[ [ ]", "[ ] ]", "] [", "[]", "[t]", "[ t]", "[t ]", "[ [] ]", "[ t ] ]", "[ [ t ]", "t ]", "[ t",
    "[ ][ ]", "[ ]t", "t[ ]", "[[ ] ]", "[ ]]", "( a-a )", "{ }", "[ t } ", "( )",
)
WRONG_SPACES = (
    " ", "  ", "\n", " t", "t ", "t  t", "  t", "t  ", " t ", "[  ]", "[  t ]", "[ t  ]", " [ ]", "[ ] ", "t\nt",
    "[ t\n]", "(a- a)", "( a-a)", "- 1", "1 \n",
)


class MadeProgramTest(unittest.TestCase):
    def setUp(self):
        self.program = Program(WORDS, "(a-aa) [ f -7 ] dip")

    def test_its_parts(self):
        self.assertEqual(self.program.text, "(a-aa) [ f -7 ] dip")
        self.assertEqual(self.program.words, ("(a-aa)", "[ f -7 ]", "dip"))
        self.assertIs(type(self.program.words), tuple)
        self.assertEqual(self.program.vocabulary, WORDS)
        self.assertIs(self.program.vocabulary, self.program.part(0, 1).vocabulary)

    def test_the_empty_program(self):
        program = Program(WORDS, "")
        self.assertEqual((program.text, program.words, program.size, len(program)), ("", (), 0, 0))
        self.assertEqual((str(program), repr(program), bool(program)), ("", "Program()", False))

    def test_size_counts_the_words_inside_of_quotations(self):
        sizes = {
            "t": 1, "t t": 2, "[ ]": 1, "[ ] [ ]": 2, "[ t ]": 2, "[ [ ] ]": 2, "[ t [ f 3 ] ] dip": 6, DEEPEST: 7,
            "(a-aa) [ f -7 ] dip": 5, "-5": 1, "(-)": 1,
        }
        for text, size in sizes.items():
            with self.subTest(text=text):
                self.assertEqual(Program(WORDS, text).size, size)

    def test_len_is_the_number_of_words(self):
        lengths = {"": 0, "t": 1, "[ ]": 1, "[ t t t ]": 1, "[ [ ] [ ] ] call t": 3, DEEPEST: 1}
        for text, length in lengths.items():
            with self.subTest(text=text):
                self.assertEqual(len(Program(WORDS, text)), length)

    def test_only_the_empty_program_is_false(self):
        for text in ("(-)", "0", "[ ]", "t"):
            with self.subTest(text=text):
                self.assertIs(bool(Program(WORDS, text)), True)
        self.assertIs(bool(Program(Vocabulary(), "")), False)

    def test_words_of_nested_quotations(self):
        words = {
            "[ [ ] [ t ] ] [ ] call": ("[ [ ] [ t ] ]", "[ ]", "call"),
            "[ [ [ 1 ] dip ] (-) ]": ("[ [ [ 1 ] dip ] (-) ]",),
            "f [ f ] f": ("f", "[ f ]", "f"),
            DEEPEST: (DEEPEST,),
        }
        for text, expected in words.items():
            with self.subTest(text=text):
                self.assertEqual(Program(WORDS, text).words, expected)

    def test_str_and_repr(self):
        self.assertEqual((str(self.program), repr(self.program)), (self.program.text, "Program((a-aa) [ f -7 ] dip)"))

    def test_keywords(self):
        self.assertEqual(Program(text="t", vocabulary=WORDS), Program(WORDS, "t"))
        self.assertEqual(self.program.then(other_program=self.program).size, 10)
        self.assertEqual(self.program.part(end=2, start=1).text, "[ f -7 ]")
        self.assertEqual(self.program.without(place=1).text, "(a-aa) dip")

    def test_every_word_of_the_vocabulary_can_be_used(self):
        words = Vocabulary(("abcdefgh", 1, 1), ("z", 0, 0))
        self.assertEqual(Program(words, "z abcdefgh [ z ]").words, ("z", "abcdefgh", "[ z ]"))

    def test_core_words(self):
        text = "call dip curry compose choose"
        self.assertEqual(Program(Vocabulary(), text).words, tuple(text.split()))

    def test_programs_without_effect_are_programs(self):
        self.assertEqual(Program(WORDS, "1 call [ (a-aa) call ]").size, 5)


class TextTest(unittest.TestCase):
    def assert_refused(self, text):
        with self.subTest(text=text):
            with self.assertRaises(InvalidText) as caught:
                Program(WORDS, text)
            self.assertIs(caught.exception.value, text)

    def assert_word_refused(self, word):
        for text in (word, f"t {word}", f"{word} t", f"[ {word} ]", f"t [ [ {word} ] t ] call"):
            self.assert_refused(text)

    def test_literals(self):
        for literal in GOOD_LITERALS:
            for text in (literal, f"t {literal} t", f"[ {literal} ]"):
                with self.subTest(text=text):
                    self.assertEqual(Program(WORDS, text).text, text)

    def test_shuffles(self):
        for shuffle in GOOD_SHUFFLES:
            for text in (shuffle, f"t {shuffle} t", f"[ {shuffle} ]"):
                with self.subTest(text=text):
                    self.assertEqual(Program(WORDS, text).text, text)

    def test_wrong_literals(self):
        for word in WRONG_LITERALS:
            self.assert_word_refused(word)

    def test_wrong_shuffles(self):
        for word in WRONG_SHUFFLES:
            self.assert_word_refused(word)

    def test_wrong_names(self):
        for word in WRONG_NAMES:
            self.assert_word_refused(word)

    def test_wrong_brackets(self):
        for text in WRONG_BRACKETS:
            self.assert_refused(text)

    def test_wrong_spaces(self):
        for text in WRONG_SPACES:
            self.assert_refused(text)

    def test_names_of_another_vocabulary(self):
        self.assertRaises(InvalidText, Program, Vocabulary(("u", 1, 1)), "t")
        self.assertRaises(InvalidText, Program, Vocabulary(), "u")

    def test_values_that_are_no_strings(self):
        for value in make_odd_values() + [sample_program(), b"t", ["t"], ("t",)]:
            self.assert_refused(value)


class LimitsTest(unittest.TestCase):
    def assert_raised(self, error, limit, text):
        with self.subTest(text=text):
            with self.assertRaises(error) as caught:
                Program(WORDS, text)
            self.assertEqual(caught.exception.limit, limit)

    def test_a_size_of_60_is_accepted(self):
        for words in (["t"] * 60, ["[ ]"] * 60, ["[ t ]"] * 30, ["(abcde-)"] * 60):
            text = " ".join(words)
            with self.subTest(text=text):
                self.assertEqual(Program(WORDS, text).size, 60)

    def test_a_size_of_61_is_too_large(self):
        for text in (" ".join(["t"] * 61), " ".join(["[ ]"] * 61), " ".join(["[ t ]"] * 30 + ["1"])):
            self.assert_raised(TooLarge, 60, text)
        self.assert_raised(TooLarge, 60, " ".join(["t"] * 1000))

    def test_nesting_6_deep_is_accepted(self):
        for text in (DEEPEST, f"t {DEEPEST} [ ] {DEEPEST}", " ".join(["["] * 6 + ["]"] * 6)):
            with self.subTest(text=text):
                self.assertEqual(Program(WORDS, text).text, text)

    def test_many_quotations_beside_each_other_are_not_deep(self):
        self.assertEqual(len(Program(WORDS, " ".join(["[ [ ] ]"] * 30))), 30)

    def test_nesting_7_deep_is_too_deep(self):
        for text in (f"[ {DEEPEST} ]", f"t [ t {DEEPEST} ] t", f"[ ] [ [ ] {DEEPEST} ]"):
            self.assert_raised(TooDeep, 6, text)
        self.assert_raised(TooDeep, 6, " ".join(["["] * 7 + ["]"] * 7))

    def test_text_ahead_of_size_ahead_of_nesting(self):
        for text in (" ".join(["t"] * 70 + ["u"]), " ".join(["t"] * 70) + " ", " ".join(["["] * 7), "[ " * 500):
            self.assertRaises(InvalidText, Program, WORDS, text)
        self.assertRaises(InvalidText, Program, WORDS, f"[ {DEEPEST} ] 00")
        self.assert_raised(TooLarge, 60, " ".join(["["] * 61 + ["]"] * 61))
        self.assert_raised(TooLarge, 60, " ".join(["["] * 499 + ["]"] * 499))
        self.assert_raised(TooLarge, 60, " ".join(["[ " + DEEPEST + " ]"] + ["t"] * 53))
        self.assert_raised(TooDeep, 6, " ".join(["[ " + DEEPEST + " ]"] + ["t"] * 52))

    def test_the_vocabulary_is_checked_ahead_of_all(self):
        for value in make_odd_values() + ["", "f 2 1", sample_program()]:
            if not isinstance(value, Vocabulary):
                for text in ("t", "u", None, " ".join(["t"] * 61)):
                    with self.subTest(value=value, text=text):
                        with self.assertRaises(NotAVocabulary) as caught:
                            Program(value, text)
                        self.assertIs(caught.exception.value, value)


class EqualityTest(unittest.TestCase):
    def assert_comparison(self, equal, one, other):
        with self.subTest(one=one, other=other):
            found = [one == other, other == one, one != other, other != one]
            self.assertEqual(found, [equal, equal, not equal, not equal])

    def test_equal_programs(self):
        for text in ("", "t", "[ t ] call"):
            self.assert_comparison(True, Program(WORDS, text), Program(sample_vocabulary(), text))
        entries = (("t", 1, 1), ("h", 0, 1), ("g", 1, 2), ("f", 2, 1))
        self.assert_comparison(True, Program(WORDS, "t"), Program(Vocabulary(*entries), "t"))

    def test_another_text(self):
        texts = ("", "t", "t t", "[ t ]", "1", "(-)", "(a-a)", "(b-b)")
        for place, text in enumerate(texts):
            for other in texts[place + 1:]:
                self.assert_comparison(False, Program(WORDS, text), Program(WORDS, other))

    def test_another_vocabulary(self):
        for entries in ((), (("t", 1, 1),), (("t", 1, 2), ("f", 2, 1), ("g", 1, 2), ("h", 0, 1))):
            self.assert_comparison(False, Program(WORDS, "1"), Program(Vocabulary(*entries), "1"))

    def test_a_program_is_equal_to_nothing_else(self):
        for value in make_odd_values() + ["", "t", "Program(t)", ("t",), ["t"]]:
            for text in ("", "t"):
                self.assert_comparison(False, Program(WORDS, text), value)

    def test_it_does_not_ask_the_other_value(self):
        class EqualToAll:
            def __eq__(self, other):
                return True

        self.assertIs(Program(WORDS, "t") == EqualToAll(), False)
        self.assertIs(Program(WORDS, "t") != EqualToAll(), True)


class ThenTest(unittest.TestCase):
    def test_the_own_words_come_first(self):
        joined = Program(WORDS, "(a-aa) [ f ]").then(Program(sample_vocabulary(), "dip t"))
        self.assertEqual(joined, Program(WORDS, "(a-aa) [ f ] dip t"))
        self.assertEqual(joined.words, ("(a-aa)", "[ f ]", "dip", "t"))

    def test_with_the_empty_program(self):
        empty, program = Program(WORDS, ""), Program(WORDS, "t [ ]")
        self.assertEqual([empty.then(program), program.then(empty)], [program, program])
        self.assertEqual(empty.then(empty), empty)

    def test_both_stay_as_they_were(self):
        one, other = Program(WORDS, "t"), Program(WORDS, "f")
        one.then(other)
        self.assertEqual([one, other], [Program(WORDS, "t"), Program(WORDS, "f")])

    def test_size(self):
        half, more = Program(WORDS, " ".join(["[ t ]"] * 15)), Program(WORDS, " ".join(["t"] * 31))
        self.assertEqual(half.then(half).size, 60)
        for one, other in ((half, more), (more, half), (more, more)):
            with self.assertRaises(TooLarge) as caught:
                one.then(other)
            self.assertEqual(caught.exception.limit, 60)

    def test_errors_in_their_order(self):
        program = Program(WORDS, " ".join(["t"] * 60))
        for value in make_odd_values() + ["", "t", WORDS]:
            with self.subTest(value=value):
                with self.assertRaises(NotAProgram) as caught:
                    program.then(value)
                self.assertIs(caught.exception.value, value)
        self.assertRaises(Mismatch, program.then, Program(Vocabulary(), "1"))
        self.assertRaises(Mismatch, program.then, Program(Vocabulary(), ""))
        self.assertRaises(Mismatch, Program(Vocabulary(), "").then, program)
        self.assertRaises(TooLarge, program.then, Program(WORDS, "t"))


class PartTest(unittest.TestCase):
    def setUp(self):
        self.program = Program(WORDS, "t [ f -7 ] dip h")

    def assert_refused(self, value, start, end):
        with self.subTest(start=start, end=end):
            with self.assertRaises(InvalidPlace) as caught:
                self.program.part(start, end)
            self.assertIs(caught.exception.value, value)

    def test_all_parts(self):
        words = ("t", "[ f -7 ]", "dip", "h")
        for start in range(5):
            for end in range(start, 5):
                with self.subTest(start=start, end=end):
                    part = self.program.part(start, end)
                    self.assertEqual(part, Program(WORDS, " ".join(words[start:end])))
                    self.assertEqual(part.words, words[start:end])

    def test_the_empty_program_has_one_part(self):
        self.assertEqual(Program(WORDS, "").part(0, 0), Program(WORDS, ""))
        self.assertRaises(InvalidPlace, Program(WORDS, "").part, 0, 1)
        self.assertRaises(InvalidPlace, Program(WORDS, "").part, 1, 1)

    def test_a_wrong_start(self):
        for start in (-1, 5, 6, 10 ** 19, -10 ** 19):
            for end in (0, 4, 5, None):
                self.assert_refused(start, start, end)

    def test_a_wrong_end(self):
        for end in (-1, 0, 1, 5, 6, 10 ** 19):
            self.assert_refused(end, 2, end)
        self.assert_refused(3, 4, 3)

    def test_other_kinds(self):
        values = [value for value in make_odd_values() if type(value) is not int]
        for value in values + ["", "0", "1", self.program]:
            self.assert_refused(value, value, 1)
            self.assert_refused(value, value, value)
            self.assert_refused(value, 0, value)
        self.assert_refused(True, True, 2)
        self.assert_refused(False, False, 2)
        self.assert_refused(True, 0, True)
        self.assert_refused(False, 0, False)


class WithoutTest(unittest.TestCase):
    def setUp(self):
        self.program = Program(WORDS, "t [ f -7 ] dip")

    def test_each_word(self):
        texts = [self.program.without(place).text for place in range(3)]
        self.assertEqual(texts, ["[ f -7 ] dip", "t dip", "t [ f -7 ]"])

    def test_the_last_word_of_all(self):
        self.assertEqual(Program(WORDS, "[ t ]").without(0), Program(WORDS, ""))

    def test_wrong_places(self):
        values = [value for value in make_odd_values() if type(value) is not int]
        for value in values + [-1, 3, 4, 10 ** 19, "0", "t", "", self.program]:
            with self.subTest(value=value):
                with self.assertRaises(InvalidPlace) as caught:
                    self.program.without(value)
                self.assertIs(caught.exception.value, value)

    def test_the_empty_program_has_no_places(self):
        for value in (0, -1, 1, None):
            self.assertRaises(InvalidPlace, Program(WORDS, "").without, value)


class QuotedTest(unittest.TestCase):
    def test_one_quotation(self):
        texts = {"": "[ ]", "t": "[ t ]", "[ ] call": "[ [ ] call ]", "[ [ ] ]": "[ [ [ ] ] ]"}
        for text, quoted in texts.items():
            with self.subTest(text=text):
                program = Program(WORDS, text).quoted()
                self.assertEqual(program, Program(WORDS, quoted))
                self.assertEqual((len(program), program.words), (1, (quoted,)))

    def test_size(self):
        self.assertEqual(Program(WORDS, " ".join(["t"] * 59)).quoted().size, 60)
        with self.assertRaises(TooLarge) as caught:
            Program(WORDS, " ".join(["t"] * 60)).quoted()
        self.assertEqual(caught.exception.limit, 60)

    def test_nesting(self):
        self.assertEqual(Program(WORDS, "[ [ [ [ [ t ] ] ] ] ]").quoted().text, DEEPEST)
        with self.assertRaises(TooDeep) as caught:
            Program(WORDS, DEEPEST).quoted()
        self.assertEqual(caught.exception.limit, 6)

    def test_size_ahead_of_nesting(self):
        self.assertRaises(TooLarge, Program(WORDS, DEEPEST + " t" * 53).quoted)
        self.assertRaises(TooDeep, Program(WORDS, DEEPEST + " t" * 52).quoted)


class InterfaceTest(unittest.TestCase):
    def test_the_class_is_defined_in_its_file_with_its_methods(self):
        self.assertEqual(Program.__module__, "stackquotes.programs")
        names = ("__init__", "then", "part", "without", "quoted", "__str__", "__repr__", "__len__", "__eq__")
        for name in names:
            with self.subTest(name=name):
                self.assertIn(name, vars(Program))


if __name__ == "__main__":
    unittest.main()
