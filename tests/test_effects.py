import random
import unittest

from stackquotes import effects
from stackquotes.effects import effect, fit, is_first_order, reach
from stackquotes.errors import Mismatch, NoEffect, NotAProgram, TooLong
from stackquotes.programs import Program
from stackquotes.samples import sample_program, sample_vocabulary
from stackquotes.vocabularies import Vocabulary
from tests import generating, reference
from tests.samples_of_values import make_odd_values

WORDS = sample_vocabulary()

# Effects of single words.
WORD_EFFECTS = {
    "0": "s0 -> s0 *",
    "-7": "s0 -> s0 *",
    "999999999999999999": "s0 -> s0 *",
    "(-)": "s0 -> s0",
    "(a-)": "s0 a0 -> s0",
    "(z-z)": "s0 a0 -> s0 a0",
    "(a-aa)": "s0 a0 -> s0 a0 a0",
    "(ab-ba)": "s0 a0 a1 -> s0 a1 a0",
    "(ba-ba)": "s0 a0 a1 -> s0 a0 a1",
    "(ab-b)": "s0 a0 a1 -> s0 a1",
    "(abcde-edcbaabc)": "s0 a0 a1 a2 a3 a4 -> s0 a4 a3 a2 a1 a0 a0 a1 a2",
    "f": "s0 * * -> s0 *",
    "g": "s0 * -> s0 * *",
    "h": "s0 -> s0 *",
    "t": "s0 * -> s0 *",
    "call": "s0 [s0 -> s1] -> s1",
    "dip": "s0 a0 [s0 -> s1] -> s1 a0",
    "curry": "s0 a0 [s1 a0 -> s2] -> s0 [s1 -> s2]",
    "compose": "s0 [s1 -> s2] [s2 -> s3] -> s0 [s1 -> s3]",
    "choose": "s0 * a0 a0 -> s0 a0",
    "[ ]": "s0 -> s0 [s1 -> s1]",
    "[ f ]": "s0 -> s0 [s1 * * -> s1 *]",
    "[ (ab-ba) ]": "s0 -> s0 [s1 a0 a1 -> s1 a1 a0]",
    "[ [ ] ]": "s0 -> s0 [s1 -> s1 [s2 -> s2]]",
    "[ [ [ t ] ] ]": "s0 -> s0 [s1 -> s1 [s2 -> s2 [s3 * -> s3 *]]]",
    "[ call ]": "s0 -> s0 [s1 [s1 -> s2] -> s2]",
    "[ dip ]": "s0 -> s0 [s1 a0 [s1 -> s2] -> s2 a0]",
}

# Effects of rows of words.
ROW_EFFECTS = {
    "": "s0 -> s0",
    "1 2 3": "s0 -> s0 * * *",
    "t t": "s0 * -> s0 *",
    "f f": "s0 * * * -> s0 *",
    "g f": "s0 * -> s0 *",
    "g g g": "s0 * -> s0 * * * *",
    "h h f": "s0 -> s0 *",
    "1 f": "s0 * -> s0 *",
    "(ab-ba) f": "s0 * * -> s0 *",
    "(a-aa) t": "s0 * -> s0 * *",
    "(ab-aab) t": "s0 a0 * -> s0 a0 a0 *",
    "(a-) (a-) (a-)": "s0 a0 a1 a2 -> s0",
    "(ab-ab) t": "s0 a0 * -> s0 a0 *",
    # Called, composed, curried, dipped.
    "[ ] call": "s0 -> s0",
    "[ (a-aa) ] call": "s0 a0 -> s0 a0 a0",
    "[ call ] call": "s0 [s0 -> s1] -> s1",
    "call call": "s0 [s0 -> s1 [s1 -> s2]] -> s2",
    "call t": "s0 [s0 -> s1 *] -> s1 *",
    "call (a-aa)": "s0 [s0 -> s1 a0] -> s1 a0 a0",
    "[ f ] dip": "s0 * * a0 -> s0 * a0",
    "[ f ] dip f": "s0 * * * -> s0 *",
    "[ ] dip": "s0 a0 -> s0 a0",
    "[ call ] dip": "s0 [s0 -> s1] a0 -> s1 a0",
    "dip dip": "s0 [s1 -> s2] [s0 -> s1 a0] -> s2 a0",
    "(ab-b) dip": "s0 a0 a1 [s0 -> s1] -> s1 a0",
    "[ f ] curry": "s0 * -> s0 [s1 * -> s1 *]",
    "[ f ] curry call": "s0 * * -> s0 *",
    "[ f ] curry curry": "s0 * * -> s0 [s1 -> s1 *]",
    "[ h ] curry": "s0 a0 -> s0 [s1 -> s1 a0 *]",
    "[ ] curry": "s0 a0 -> s0 [s1 -> s1 a0]",
    "curry curry": "s0 a0 a1 [s1 a0 a1 -> s2] -> s0 [s1 -> s2]",
    "curry call": "s0 a0 [s0 a0 -> s1] -> s1",
    "[ ] curry [ ] curry": "s0 a0 -> s0 [s1 -> s1 [s2 -> s2 a0]]",
    "[ t ] [ h ] compose": "s0 -> s0 [s1 * -> s1 * *]",
    "[ t ] compose": "s0 [s1 -> s2 *] -> s0 [s1 -> s2 *]",
    "[ t ] compose call": "s0 [s0 -> s1 *] -> s1 *",
    "[ (a-) ] [ h ] compose": "s0 -> s0 [s1 a0 -> s1 *]",
    "compose call": "s0 [s0 -> s1] [s1 -> s2] -> s2",
    "compose compose": "s0 [s1 -> s2] [s2 -> s3] [s3 -> s4] -> s0 [s1 -> s4]",
    "compose curry": "s0 a0 [s1 a0 -> s2] [s2 -> s3] -> s0 [s1 -> s3]",
    # Chosen and copied.
    "1 2 choose": "s0 * -> s0 *",
    "choose choose": "s0 * a0 * a0 a0 -> s0 a0",
    "choose call": "s0 * [s0 -> s1] [s0 -> s1] -> s1",
    "[ t ] [ ] choose": "s0 * -> s0 [s1 * -> s1 *]",
    "[ t ] choose": "s0 * [s1 * -> s1 *] -> s0 [s1 * -> s1 *]",
    "[ (a-) h ] [ ] choose": "s0 * -> s0 [s1 * -> s1 *]",
    "[ (ab-ba) ] [ ] choose": "s0 * -> s0 [s1 a0 a0 -> s1 a0 a0]",
    "[ t ] (a-aa)": "s0 -> s0 [s1 * -> s1 *] [s1 * -> s1 *]",
    "[ ] (a-aa)": "s0 -> s0 [s1 -> s1] [s1 -> s1]",
    "[ ] [ ]": "s0 -> s0 [s1 -> s1] [s2 -> s2]",
    "(a-aa) compose": "s0 [s1 -> s1] -> s0 [s1 -> s1]",
    "(a-aa) dip": "s0 [s0 -> s1] -> s1 [s0 -> s1]",
    "(a-aa) dip call": "s0 [s0 -> s0] -> s0",
    "[ t ] (a-aa) compose call": "s0 * -> s0 *",
    "(ab-bb) choose": "s0 * a0 a1 -> s0 a1",
    "(ab-abb) choose": "s0 * a0 -> s0 a0",
    # Put into each other, and taken out again.
    "[ [ t ] call ] call": "s0 * -> s0 *",
    "[ [ f ] dip ] dip": "s0 * * a0 a1 -> s0 * a0 a1",
    "[ [ f ] curry ] curry": "s0 * -> s0 [s1 -> s1 [s2 * -> s2 *]]",
    "[ [ ] curry curry ] call": "s0 a0 a1 -> s0 [s1 -> s1 a0 a1]",
    "[ t ] (ab-ba) call": "s0 [s0 [s1 * -> s1 *] -> s2] -> s2",
    "[ t ] [ call ] call": "s0 * -> s0 *",
    "[ [ t ] ] call call": "s0 * -> s0 *",
    "[ ] (a-)": "s0 -> s0",
    "[ call ] (a-) t": "s0 * -> s0 *",
}

# The places of the first words without effect.
FAULTS = {
    "(a-aa) call": 1,
    "1 call": 1,
    "t call": 1,
    "[ ] t": 1,
    "[ ] [ ] f": 2,
    "1 [ ] f": 2,
    "1 2 dip": 2,
    "1 dip": 1,
    "[ ] 1 curry": 2,
    "1 curry": 1,
    "(a-aa) curry": 1,
    "[ t ] [ t ] curry": 2,
    "[ ] 1 compose": 2,
    "1 [ ] compose": 2,
    "[ h ] (a-aa) compose": 2,
    "[ (a-aa) ] (a-aa) compose": 2,
    "[ h ] [ [ ] t ] compose": 1,
    "[ ] 1 2 choose": 3,
    "1 [ ] 2 choose": 3,
    "1 2 [ ] choose": 3,
    "1 [ h ] [ ] choose": 3,
    "1 [ t ] [ call ] choose": 3,
    "(ab-bb) choose t choose call": 4,
    "[ ] (a-aa) call": 2,
    "1 call call call": 1,
    "t t t 1 call t 1 call": 4,
    # Inside of quotations.
    "[ 1 call ]": 0,
    "[ (a-aa) call ] (a-)": 0,
    "t [ t [ (a-aa) call ] ]": 1,
    "[ ] [ [ [ [ [ 1 call ] ] ] ] ] t": 1,
    "t [ 1 ] (a-) [ [ ] t ]": 3,
    "[ t t t t 1 call ] 1 call": 0,
    "[ ] t [ 1 call ]": 1,
}

FIRST_ORDER = (
    "", "t", "5", "(a-aa)", "(-)", "f g", "choose", "[ ] call", "[ t ] dip", "[ ] (a-)", "[ f ] curry call",
    "(a-aa) t [ f ] [ (ab-b) ] choose call", "[ [ t ] call ] call", "[ t ] (a-aa) compose call",
)
NOT_FIRST_ORDER = (
    "call", "dip", "curry", "compose", "[ ]", "[ t ]", "call t", "[ ] curry", "[ t ] compose call", "(a-aa) compose",
    "choose call", "[ t ] (ab-ba) call", "[ ] 1",
)

FITTING = (
    ("", ""), ("t", "t"), ("t", "(a-a)"), ("t", ""), ("(ab-ba)", "(ab-ab)"), ("1", "h"), ("f", "(ab-a)"),
    ("call", "(a-)"), ("call", "[ ] compose call"), ("[ ]", "[ t ]"), ("[ (a-) ]", "[ (ab-a) ]"),
    ("[ f ]", "[ (ab-b) ]"), ("dip", "(ab-ba) [ call ] dip"), ("call", "(ab-a) call"), ("", "(abcde-abcde)"),
    ("[ ] curry", "[ (a-a) ] curry"), ("choose", "(abc-b)"), ("g", "h"),
)
NOT_FITTING = (
    ("(ab-ba)", "(ab-b)"), ("", "1"), ("", "(a-)"), ("t", "f"), ("[ ]", "1"), ("t", "(a-aa)"), ("[ t ]", "[ h ]"),
    ("t", "[ ]"), ("call", "t"), ("call", ""), ("[ [ ] ]", "[ 1 ]"), ("g", "f"), ("[ ]", ""), ("curry", "compose"),
    ("(a-) [ ]", "(a-) 1"), ("[ (a-) ]", "[ (a-aa) ]"),
)

# Programs whose effects are too long to be written out, and their reaches.
HUGE = {
    "(a-aa) [ ] curry curry " * 14: (1, 1),
    ("(a-aaaaaaaa) [ ] " + "curry " * 8) * 5: (1, 1),
    "[ ] " + "(a-aa) [ ] curry curry " * 14: (0, 1),
    "h " + "(a-aa) [ ] curry curry " * 14: (0, 1),
    "(a-aa) " + "[ ] curry curry (a-aa) " * 14: (1, 2),
}


def make(text):
    return Program(WORDS, text.strip())


class EffectTest(unittest.TestCase):
    def test_words(self):
        for text, expected in WORD_EFFECTS.items():
            with self.subTest(text=text):
                self.assertEqual(effect(make(text)), expected)

    def test_rows(self):
        for text, expected in ROW_EFFECTS.items():
            with self.subTest(text=text):
                self.assertEqual(effect(make(text)), expected)

    def test_all_arities(self):
        for inputs in range(4):
            for outputs in range(4):
                program = Program(Vocabulary(("u", inputs, outputs)), "u")
                expected = "s0" + " *" * inputs + " -> s0" + " *" * outputs
                with self.subTest(program=program.vocabulary):
                    self.assertEqual(effect(program), expected)
                    self.assertEqual(reach(program), (inputs, outputs))

    def test_variables_are_numbered_beyond_9_on_their_own(self):
        values = " ".join(f"a{number}" for number in range(12))
        self.assertEqual(effect(make("(abcde-) (abcde-) (ab-)")), f"s0 {values} -> s0")
        quotations = make(" ".join(["[ ]"] * 11))
        expected = " ".join(f"[s{number} -> s{number}]" for number in range(1, 12))
        self.assertEqual(effect(quotations), f"s0 -> s0 {expected}")

    def test_it_does_not_depend_on_letters(self):
        self.assertEqual(effect(make("(xy-yx)")), effect(make("(ab-ba)")))

    def test_by_keyword(self):
        self.assertEqual(effect(program=make("t")), "s0 * -> s0 *")

    def test_repeated_calls_return_the_same(self):
        program = make("curry compose dip")
        self.assertEqual(effect(program), effect(program))

    def test_random_programs(self):
        source = random.Random(1)
        with_effect = 0
        for attempt in range(600):
            make_row = generating.make_row if attempt % 2 else generating.make_row_with_effect
            text = " ".join(make_row(source, source.randint(0, 9)))
            expected = reference.effect(generating.WORDS, text)
            with self.subTest(text=text):
                program = Program(generating.WORDS, text)
                if expected is None:
                    with self.assertRaises(NoEffect) as caught:
                        effect(program)
                    self.assertEqual(caught.exception.index, reference.first_without_effect(generating.WORDS, text))
                else:
                    with_effect += 1
                    self.assertEqual(effect(program), expected)
        self.assertGreater(with_effect, 200)


class NoEffectTest(unittest.TestCase):
    def test_the_place_of_the_first_word_without_effect(self):
        for text, place in FAULTS.items():
            with self.subTest(text=text):
                for function in (effect, reach):
                    with self.assertRaises(NoEffect) as caught:
                        function(make(text))
                    self.assertEqual(caught.exception.index, place)
                self.assertIs(is_first_order(make(text)), False)

    def test_the_words_before_it_have_an_effect(self):
        for text, place in FAULTS.items():
            with self.subTest(text=text):
                self.assertIsInstance(effect(make(text).part(0, place)), str)
                self.assertRaises(NoEffect, effect, make(text).part(0, place + 1))

    def test_no_effect_ahead_of_a_text_that_is_too_long(self):
        program = make("(a-aa) [ ] curry curry " * 14 + "1 call")
        with self.assertRaises(NoEffect) as caught:
            effect(program)
        self.assertEqual(caught.exception.index, 57)


class LongEffectTest(unittest.TestCase):
    def copies(self, shuffle, literals):
        """Return a program that leaves many copies of a quotation, and literals."""
        return make("[ ] " + "(a-aaaaaaaa) " * 25 + shuffle + " 1" * literals)

    def test_a_text_of_2000_characters(self):
        text = effect(self.copies("(a-aaaaa)", 6))
        self.assertEqual(len(text), 2000)
        self.assertEqual(text, "s0 -> s0" + " [s1 -> s1]" * 180 + " *" * 6)

    def test_a_text_of_2001_characters(self):
        program = self.copies("(a-aaaaaa)", 1)
        with self.assertRaises(TooLong) as caught:
            effect(program)
        self.assertEqual(caught.exception.limit, 2000)
        self.assertEqual(reach(program), (0, 182))
        self.assertEqual(len(effect(program.part(0, 27))), 1999)

    def test_texts_around_the_limit_that_end_in_a_quotation(self):
        # 8 characters, and 11 for each copy; the last copy ends at 1999 and at 2010.
        for shuffle, long in (("(a-aaaaaa)", False), ("(a-aaaaaaa)", True)):
            with self.subTest(shuffle=shuffle):
                if long:
                    self.assertRaises(TooLong, effect, self.copies(shuffle, 0))
                else:
                    self.assertEqual(len(effect(self.copies(shuffle, 0))), 1999)

    def test_huge_effects(self):
        for text, expected in HUGE.items():
            program = make(text)
            with self.subTest(text=text):
                with self.assertRaises(TooLong) as caught:
                    effect(program)
                self.assertEqual(caught.exception.limit, 2000)
                self.assertEqual(reach(program), expected)
                self.assertIs(is_first_order(program), False)
                self.assertIs(fit(program, program), True)

    def test_huge_effects_that_fit_and_that_do_not(self):
        nested = "(a-aa) [ ] curry curry " * 13
        self.assertIs(fit(make(nested), make(nested + "(a-a)")), True)
        self.assertIs(fit(make("t " + nested), make(nested)), True)
        self.assertIs(fit(make("t " + nested), make("[ ] dip " + nested)), True)
        self.assertIs(fit(make("(a-) [ ] " + nested), make("(a-) 1 " + nested)), False)
        self.assertIs(fit(make("(a-) [ t ] " + nested), make("(a-) [ ] " + nested)), True)

    def test_wide_stacks(self):
        program = make("(a-aaaaaaaa) " * 59)
        self.assertEqual(reach(program), (1, 414))
        self.assertIs(is_first_order(program), True)


class ReachTest(unittest.TestCase):
    def test_numbers_of_shapes(self):
        reaches = {
            "": (0, 0), "1 2": (0, 2), "f": (2, 1), "call": (1, 0), "dip": (2, 1), "curry": (2, 1), "compose": (2, 1),
            "choose": (3, 1), "(abcde-)": (5, 0), "(a-aaaaaaaa)": (1, 8), "[ f f f ]": (0, 1), "[ t ] compose call":
            (1, 1), "call call": (1, 0), "[ f ] dip f": (3, 1), "call (ab-ba)": (1, 2),
        }
        for text, expected in reaches.items():
            with self.subTest(text=text):
                self.assertEqual(reach(make(text)), expected)
                self.assertIs(type(reach(make(text))), tuple)

    def test_by_keyword(self):
        self.assertEqual(reach(program=make("t")), (1, 1))


class IsFirstOrderTest(unittest.TestCase):
    def test_first_order_programs(self):
        for text in FIRST_ORDER:
            with self.subTest(text=text):
                self.assertIs(is_first_order(make(text)), True)

    def test_other_programs(self):
        for text in NOT_FIRST_ORDER + tuple(FAULTS):
            with self.subTest(text=text):
                self.assertIs(is_first_order(program=make(text)), False)


class FitTest(unittest.TestCase):
    def test_fitting_programs(self):
        for one, other in FITTING:
            with self.subTest(one=one, other=other):
                self.assertIs(fit(make(one), make(other)), True)
                self.assertIs(fit(make(other), make(one)), True)

    def test_programs_that_do_not_fit(self):
        for one, other in NOT_FITTING:
            with self.subTest(one=one, other=other):
                self.assertIs(fit(make(one), make(other)), False)
                self.assertIs(fit(program=make(other), other_program=make(one)), False)

    def test_random_programs(self):
        source = random.Random(2)
        found = []
        for attempt in range(300):
            row = generating.make_row_with_effect(source, source.randint(0, 6))
            other_row = generating.make_row_with_effect(source, source.randint(0, 6))
            if attempt % 2:
                other_row = generating.change_row(source, row)
            one, other = " ".join(row), " ".join(other_row)
            if reference.effect(generating.WORDS, other) is not None:
                expected = reference.common(generating.WORDS, one, other) is not None
                found.append(expected)
                with self.subTest(one=one, other=other):
                    self.assertIs(fit(Program(generating.WORDS, one), Program(generating.WORDS, other)), expected)
        self.assertGreater(min(found.count(True), found.count(False)), 50)

    def test_errors_in_their_order(self):
        bad, worse = make("1 call"), make("t t (a-aa) call")
        other = Program(Vocabulary(), "1 call")
        for value in make_odd_values() + ["", "t", WORDS]:
            with self.subTest(value=value):
                for pair in ((value, bad), (value, value), (value, other)):
                    with self.assertRaises(NotAProgram) as caught:
                        fit(*pair)
                    self.assertIs(caught.exception.value, value)
                with self.assertRaises(NotAProgram) as caught:
                    fit(bad, value)
                self.assertIs(caught.exception.value, value)
        self.assertRaises(Mismatch, fit, bad, other)
        self.assertRaises(Mismatch, fit, other, bad)
        self.assertRaises(Mismatch, fit, make(""), Program(Vocabulary(), ""))
        for pair, index in (((bad, worse), 1), ((worse, bad), 3), ((make("t"), worse), 3), ((worse, make("t")), 3)):
            with self.assertRaises(NoEffect) as caught:
                fit(*pair)
            self.assertEqual(caught.exception.index, index)


class InterfaceTest(unittest.TestCase):
    def test_values_that_are_no_programs(self):
        for function in (effect, reach, is_first_order):
            for value in make_odd_values() + ["", "t", WORDS]:
                with self.subTest(function=function, value=value):
                    with self.assertRaises(NotAProgram) as caught:
                        function(value)
                    self.assertIs(caught.exception.value, value)

    def test_functions_are_defined_in_their_file(self):
        for name in ("effect", "reach", "is_first_order", "fit"):
            self.assertEqual(getattr(effects, name).__module__, "stackquotes.effects")

    def test_the_sample(self):
        program = sample_program()
        self.assertEqual((effect(program), reach(program), is_first_order(program)), ("s0 * * -> s0 *", (2, 1), True))


if __name__ == "__main__":
    unittest.main()
