import random
import unittest

from stackquotes import comparing
from stackquotes.comparing import agree, commute, idle_words, undoes
from stackquotes.errors import HigherOrder, Mismatch, NoEffect, NotAProgram, TooLarge
from stackquotes.programs import Program
from stackquotes.samples import sample_vocabulary
from stackquotes.vocabularies import Vocabulary
from tests import generating, reference
from tests.samples_of_values import make_odd_values

WORDS = sample_vocabulary()

# Programs that agree.
SAME = (
    # Without tests.
    ("t", "t (a-a)"), ("h (a-aa) f", "h h f"), ("5", "[ 5 ] call"), ("(a-aa) t (ab-ba) t f", "t (a-aa) f"),
    ("(ab-ba) (ab-ba)", "(-)"), ("(abc-cab) (abc-cab)", "(abc-bca)"), ("f", "(ab-ab) f"),
    ("[ t ] dip t", "t [ t ] dip"), ("h [ t ] dip", "t h"), ("g (ab-)", "t (a-)"), ("1 2 (ab-ba)", "2 1"),
    ("[ t ] curry call", "t"), ("[ t ] [ t ] compose call", "t t"), ("[ t ] (a-aa) compose call", "t t"),
    ("[ f ] curry curry call", "f"), ("[ [ t ] call ] call", "t"), ("t [ ] dip", "[ ] dip t"), ("t (a-)", "(a-)"),
    # Tests that are integers.
    ("1 5 6 choose", "5"), ("0 5 6 choose", "6"), ("-3 5 6 choose", "5"), ("-1 [ t ] [ ] choose call", "t"),
    ("0 [ t ] [ ] choose call", "(a-a)"), ("1 0 1 choose 5 6 choose", "6"), ("0 0 1 choose 5 6 choose", "5"),
    ("999999999999999999 h 2 choose", "h"),
    # Other tests.
    ("h 1 2 choose", "h [ 1 ] [ 2 ] choose call"), ("h [ t ] [ ] choose call", "(a-aa) t h (abc-cba) choose"),
    ("t 0 1 choose 6 5 choose", "t 5 6 choose"), ("t 1 0 choose 5 6 choose", "t 5 6 choose"),
    ("1 2 choose t", "[ 1 t ] [ 2 t ] choose call"), ("h 1 2 choose f", "h [ 1 f ] [ 2 f ] choose call"),
    ("h 1 2 choose t h 3 4 choose f", "h [ 1 t 3 f ] [ 2 t 4 f ] choose call"), ("choose t", "[ t ] dip t choose"),
    # Tests asked again.
    ("(a-aa) 1 2 choose (ab-ba) 3 4 choose f", "[ 1 3 f ] [ 2 4 f ] choose call"),
    ("h h 1 2 choose 3 choose", "h 1 3 choose"), ("h 1 h 2 3 choose choose", "h 1 3 choose"),
    ("h h 5 6 choose h 7 8 choose choose", "h 5 8 choose"), ("h t h t 1 2 choose 3 choose", "h t 1 3 choose"),
    # The same results reached on different ways.
    ("h 1 2 choose t", "h 1 t 2 t choose"), ("h 1 2 choose t 3 4 choose", "h 1 t 3 4 choose 2 t 3 4 choose choose"),
    ("h 1 2 choose t 3 4 choose", "h [ 1 t ] [ 2 t ] choose call 3 4 choose"),
    ("1 t h 1 2 choose t 3 4 choose 5 choose", "1 t h 1 t 2 t choose 3 4 choose 5 choose"),
    ("h 1 0 choose t 5 6 choose", "h 1 t 5 6 choose 0 t 5 6 choose choose"),
    # Values that do not depend on a test.
    ("h 1 1 choose", "1"), ("h [ t ] [ t ] choose call", "t"), ("h [ t ] [ (a-a) t ] choose call", "t"),
    ("h 1 2 choose (a-)", "(-)"), ("h h 3 4 choose h 3 4 choose choose", "h 3 4 choose"),
    ("h h 1 2 choose h 1 3 choose choose", "h 1 3 choose"), ("h 1 2 choose 7 8 choose", "7"),
    ("h 1 2 choose [ ] [ t ] choose call", "(-)"),
    # Quotations that are left.
    ("[ ]", "[ (a-a) ]"), ("[ t ] [ t ]", "[ t ] (a-aa)"), ("[ t t ]", "[ t ] (a-aa) compose"),
    ("[ t ] curry", "t [ ] curry"), ("5 [ f ] curry", "[ 5 f ]"), ("[ h ] compose", "[ call h ] curry"),
    ("h [ 1 ] [ 2 ] choose", "[ h 1 2 choose ]"), ("h [ 1 ] [ 2 ] choose", "h 1 2 choose [ ] curry"),
    ("[ [ t ] ]", "[ t ] [ ] curry"), ("[ [ t ] [ t ] compose ]", "[ [ t t ] ]"),
    ("[ 1 2 choose ]", "[ [ 1 ] [ 2 ] choose call ]"),
    ("[ (a-aa) 1 2 choose f ]", "[ (a-aa) [ 1 ] [ 2 ] choose call f ]"),
    ("[ [ 1 2 choose ] dip ]", "[ (ab-ba) 1 2 choose (ab-ba) ]"), ("[ ] [ ] compose", "[ ]"),
    ("[ f ] curry [ t ] compose", "[ f t ] curry"), ("h [ ] [ (a-a) ] choose", "[ ]"),
    ("[ t ] curry [ ] curry", "t [ ] curry [ ] curry"),
    # Unknown quotations, called, composed and curried.
    ("call", "[ ] compose call"), ("call", "[ ] (ab-ba) compose call"), ("compose call", "[ call ] dip call"),
    ("compose", "[ [ call ] dip call ] curry curry"), ("(a-aa) compose call", "(a-aa) [ call ] dip call"),
    ("curry call", "call"), ("dip", "(ab-ba) [ call ] dip"), ("call call", "[ call ] compose call"),
    ("[ t ] compose call", "call t"), ("[ t ] dip call", "[ t ] (ab-ba) compose call"),
    ("compose compose call", "[ compose ] dip compose call"), ("compose compose", "[ compose ] dip compose"),
    ("choose call", "choose [ ] compose call"), ("curry curry call", "call"),
    ("call (a-aa)", "[ (a-aa) ] compose call"), ("curry", "[ call ] curry curry"), ("(a-)", "[ ] curry (a-)"),
    ("(a-aa) dip", "(a-aa) [ call ] dip"), ("(a-)", "(a-aa) compose (a-)"),
    ("call 1 2 choose", "[ 1 2 choose ] compose call"),
    ("choose call", "[ [ call ] curry ] dip [ call ] curry choose call"), ("1 (ab-ba) curry call", "1 (ab-ba) call"),
    ("h 1 2 choose (ab-ba) call t", "h [ 1 (ab-ba) call t ] [ 2 (ab-ba) call t ] choose call"),
    ("h [ 1 ] [ 2 ] choose (ab-ba) compose call t", "h 1 2 choose (ab-ba) call t"),
    ("h [ t ] [ ] choose dip call", "h [ [ t ] dip call ] [ call ] choose call"),
    # Quotations that take quotations.
    ("[ call ]", "[ [ ] compose call ]"), ("[ (a-aa) compose call ]", "[ (a-aa) [ call ] dip call ]"),
    ("[ compose ]", "[ [ [ call ] dip call ] curry curry ]"), ("[ curry call ]", "[ call ]"),
    ("[ dip ]", "[ (ab-ba) [ call ] dip ]"), ("[ [ call ] ]", "[ [ [ ] compose call ] ]"),
    ("[ choose call ]", "[ choose [ ] compose call ]"),
    # Programs of different reach.
    ("t", "(abc-abc) t"), ("h", "(a-a) h"), ("[ ] dip", "(-)"), ("call", "[ (a-a) ] compose call"),
    ("call", "[ (ab-ab) ] dip call"), ("[ t ]", "(ab-ab) [ (ab-ab) t ]"),
)

# Programs that fit each other but do not agree.
DIFFERENT = (
    # Without tests.
    ("t", "(a-a)"), ("t", "t t"), ("1", "2"), ("1", "-1"), ("0", "h"), ("h", "h t"), ("f", "(ab-ba) f"),
    ("f", "(ab-a)"), ("g", "g (ab-ba)"), ("g", "(a-aa)"), ("(ab-ba)", "(-)"), ("(ab-a)", "(ab-b)"),
    ("(ab-aa)", "(ab-bb)"), ("h h f", "h t h f"), ("g (ab-a)", "g (ab-b)"), ("[ t ] dip", "t"), ("[ t ] dip", "(-)"),
    ("(a-) 1", "(a-) 0"), ("1 t", "2 t"), ("t", "(a-) 1"), ("h", "1"),
    # With tests.
    ("t 1 2 choose", "t 1 3 choose"), ("t 1 2 choose", "t 4 2 choose"), ("t 1 2 choose", "t 2 1 choose"),
    ("t 1 2 choose", "1 2 choose"), ("t (a-aa) [ t ] [ ] choose call", "t t"), ("h 1 2 choose", "1"),
    ("h 1 2 choose", "2"), ("choose", "(abc-b)"), ("choose", "(abc-c)"), ("choose", "(abc-acb) choose"),
    ("h h 1 2 choose h 3 2 choose choose", "h 3 2 choose"), ("h 1 2 choose t 3 4 choose", "h 1 2 choose 3 4 choose"),
    ("h 1 2 choose t", "h 1 3 choose t"), ("h t 1 2 choose", "h 1 2 choose"), ("0 t 1 2 choose", "2"),
    ("1 t 1 2 choose", "1"), ("h 1 2 choose t h 3 4 choose f", "h [ 1 t 3 f ] [ 2 t 3 f ] choose call"),
    ("h t 1 2 choose t 5 6 choose", "h t 1 2 choose t 6 5 choose"), ("h 0 1 choose 1 2 choose", "h 1 2 choose"),
    ("h 1 t 3 4 choose 2 t 3 4 choose choose", "1 t 3 4 choose"),
    # Quotations that are left.
    ("[ t ]", "[ t t ]"), ("[ t ]", "[ ]"), ("[ 1 ]", "[ 2 ]"), ("[ (ab-ba) ]", "[ ]"), ("[ [ 1 ] ]", "[ [ 2 ] ]"),
    ("[ f ]", "[ (ab-ba) f ]"), ("t [ f ] curry", "[ f ] curry"), ("h [ 1 ] [ 2 ] choose", "[ 1 ]"),
    ("h [ 1 ] [ 2 ] choose", "h [ 2 ] [ 1 ] choose"), ("[ 1 2 choose ]", "[ t 1 2 choose ]"),
    ("[ (a-aa) f ]", "[ (a-aa) t f ]"), ("[ t ] [ ]", "[ ] [ t ]"), ("[ 1 2 choose ]", "[ 2 1 choose ]"),
    ("[ [ ] ]", "[ [ (ab-ba) ] ]"),
    # Unknown quotations, called, composed and curried.
    ("(a-aa) [ call ] dip call", "call"), ("call", "(a-)"), ("call t", "call"), ("[ t ] dip call", "call"),
    ("compose", "(ab-ba) compose"), ("compose", "(ab-a)"), ("compose", "(ab-b)"),
    ("compose call", "(ab-ba) compose call"), ("choose call", "(abc-acb) choose call"), ("dip", "(ab-a)"),
    ("[ t ] compose", "[ ] compose"), ("(a-aa) compose", "(a-a)"),
    ("(a-aa) compose (a-aa) compose", "(a-aaa) compose compose"), ("call 1 2 choose", "call 2 1 choose"),
    ("call (ab-ba)", "call"), ("1 (ab-ba) call", "2 (ab-ba) call"), ("[ t ] dip curry", "curry"),
    ("call call", "call (a-)"),
    ("choose call", "(abc-b) call"), ("choose call", "(abc-c) call"), ("choose call t", "(abc-b) call t"),
    ("h 1 2 choose (ab-ba) call t", "1 (ab-ba) call t"), ("1 (ab-ba) call call", "2 (ab-ba) call call"),
    ("(a-aa) [ call ] dip (ab-ba) [ call (a-) ] dip", "(a-aa) [ call (a-) ] dip call"),
    ("(a-aa) [ call ] dip (ab-ba) [ call (a-) ] dip [ t ] compose", "(a-aa) [ call (a-) ] dip call [ t ] compose"),
    # Quotations that take quotations.
    ("[ (a-aa) compose call ]", "[ call ]"), ("[ compose ]", "[ (ab-ba) compose ]"), ("[ call ]", "[ (a-) ]"),
    ("[ choose call ]", "[ (abc-acb) choose call ]"), ("[ [ call ] ]", "[ [ (a-) ] ]"),
)

NOT_FITTING = (
    ("", "1"), ("t", "f"), ("(a-)", ""), ("[ t ]", "[ h ]"), ("[ ]", "1"), ("call", "t"), ("curry", "compose"),
    # The first programs here have an order above 2.
    ("[ t ] (ab-ba) call", "t"), ("[ t ] (ab-ba) call", ""), ("[ t ] (ab-ba) call", "1 (ab-ba) call"),
    ("[ t ] (ab-ba) call", "call"),
)

# The most general common instance has an order above 2.
HIGHER_ORDER = (
    ("[ t ] (ab-ba) call", "[ t ] (ab-ba) call"), ("[ t ] (ab-ba) call", "[ ] (ab-ba) call"),
    ("(a-aa) [ [ t ] (ab-ba) call ] curry (a-)", ""), ("(a-aa) [ [ t ] (ab-ba) call ] curry (a-)", "(a-a)"),
    ("[ [ t ] (ab-ba) call ]", "[ [ t ] (ab-ba) call ]"),
    # Here neither of the programs has an order above 2.
    ("call", "(ab-a) call"), ("[ call ]", "[ (ab-a) call ]"),
)

NO_PROGRAMS = ["", "t", WORDS, *make_odd_values()]


def make(text):
    return Program(WORDS, text)


class AgreeTest(unittest.TestCase):
    def assert_agreement(self, expected, one, other):
        with self.subTest(one=one, other=other):
            self.assertIs(agree(make(one), make(other)), expected)
            self.assertIs(agree(make(other), make(one)), expected)

    def test_programs_that_agree(self):
        for one, other in SAME:
            self.assert_agreement(True, one, other)

    def test_programs_that_do_not_agree(self):
        for one, other in DIFFERENT:
            self.assert_agreement(False, one, other)

    def test_programs_without_a_common_instance(self):
        for one, other in NOT_FITTING:
            self.assert_agreement(False, one, other)

    def test_every_program_agrees_with_itself(self):
        for pair in SAME + DIFFERENT:
            for text in pair:
                self.assert_agreement(True, text, text)

    def test_quotations_of_programs_agree_as_the_programs_do(self):
        for expected, pairs in ((True, SAME), (False, DIFFERENT + NOT_FITTING)):
            for one, other in pairs:
                one, other = generating.quotation(one.split()), generating.quotation(other.split())
                self.assert_agreement(expected, one, other)
                self.assert_agreement(expected, f"5 {one}", f"5 [ {other} ] call")

    def test_the_empty_program(self):
        self.assert_agreement(True, "", "")
        self.assert_agreement(True, "", "(abcde-abcde)")

    def test_words_without_outputs_and_inputs(self):
        words = Vocabulary(("drop", 1, 0), ("nothing", 0, 0), ("two", 0, 2), ("three", 3, 3))
        pairs = {
            ("drop", "(a-)"): True, ("nothing", ""): True, ("nothing nothing", "nothing"): True,
            ("two two", "two"): False,
            ("two two", "two (ab-abab)"): True, ("two", "two (ab-ba)"): False, ("two drop", "two (ab-b)"): False,
            ("three (abc-)", "drop drop drop"): True, ("three three", "three"): False,
            ("three (abc-a)", "three (abc-b)"): False, ("three", "(abc-abc) three (abc-abc)"): True,
        }
        for (one, other), expected in pairs.items():
            with self.subTest(one=one, other=other):
                self.assertIs(agree(Program(words, one), Program(words, other)), expected)

    def test_by_keyword(self):
        self.assertIs(agree(other_program=make("t"), program=make("t")), True)

    def test_random_programs(self):
        source = random.Random(3)
        found = {True: 0, False: 0, None: 0}
        for attempt in range(500):
            row = generating.make_row_with_effect(source, source.randint(0, 8))
            other_row = generating.change_row(source, row)
            one, other = " ".join(row), " ".join(other_row)
            if reference.effect(generating.WORDS, other) is None:
                continue
            expected = reference.agree(generating.WORDS, one, other)
            found[expected] += 1
            pair = (Program(generating.WORDS, one), Program(generating.WORDS, other))
            with self.subTest(one=one, other=other):
                if expected is None:
                    self.assertRaises(HigherOrder, agree, *pair)
                else:
                    self.assertIs(agree(*pair), expected)
        self.assertGreater(min(found[True], found[False]), 50)


class LargeComparisonTest(unittest.TestCase):
    """Comparisons in which trying all answers of all tests, or writing out all shapes, would never end."""

    def repeated(self, text, times):
        """Return a program that executes the text 2 ** times times."""
        return make(f"[ {text} ] " + "(a-aa) compose " * times + "call")

    def test_many_independent_tests(self):
        rows = make(" ".join(["choose"] * 60))
        self.assertIs(agree(rows, rows), True)
        one, other = make("choose " * 40 + "t"), make("[ t ] dip t" + " choose" * 40)
        self.assertIs(agree(one, make("choose " * 40 + "(a-a) t")), True)
        self.assertIs(agree(one, other), False)

    def test_states_that_depend_on_all_tests_before(self):
        one = "(a-aa) t [ (a-aa) f ] [ h f ] choose call"
        same = "(a-aa) t 0 1 choose [ h f ] [ (a-aa) f ] choose call"
        different = "(a-aa) t 0 1 choose [ h f ] [ (a-aa) f t ] choose call"
        self.assertIs(agree(self.repeated(one, 5), self.repeated(same, 5)), True)
        self.assertIs(agree(self.repeated(one, 5), self.repeated(different, 5)), False)

    def test_values_that_collect_all_tests(self):
        one = "(a-aa) 1 2 choose [ t ] dip (abc-bac) f (ab-ba)"
        same = "(a-aa) 0 1 choose 2 1 choose [ t ] dip (abc-bac) f (ab-ba)"
        self.assertIs(agree(self.repeated(one, 5), self.repeated(same, 5)), True)
        self.assertIs(agree(self.repeated(one, 5), self.repeated(same, 4)), False)

    def test_tests_that_come_back(self):
        one, same = "t 1 2 choose", "t 0 1 choose 2 1 choose"
        self.assertIs(agree(self.repeated(one, 7), self.repeated(same, 7)), True)
        # After t(1) and t(2) are known, the row of values has a period of one or two.
        self.assertIs(agree(self.repeated(one, 3), self.repeated(one, 2)), True)
        self.assertIs(agree(self.repeated(one, 1), self.repeated(one, 0)), False)

    def test_many_steps(self):
        self.assertIs(agree(self.repeated("t", 10), self.repeated("t (a-a)", 10)), True)
        self.assertIs(agree(self.repeated("t", 10), self.repeated("t", 9)), False)
        self.assertIs(agree(self.repeated("(ab-ba)", 25), make("(ab-ab)")), True)
        self.assertIs(agree(self.repeated("(abc-bca)", 25), make("(abc-bca)")), False)
        self.assertIs(agree(self.repeated("(abc-bca)", 25), make("(abc-cab)")), True)

    def test_quotations_with_many_parts(self):
        tower = make("[ ] [ t ] (a-) " + "[ [ t ] compose ] " + "(a-aa) compose " * 10 + "call call")
        self.assertIs(agree(tower, self.repeated("t", 10)), True)

    def test_terms_that_are_too_long_to_be_written(self):
        self.assertIs(agree(make("t" + " (a-aa) f" * 29), make("t" + " (a-aa) f" * 28 + " (a-aa) f")), True)
        self.assertIs(agree(make("t" + " (a-aa) f" * 25), make("t 1 2 choose" + " (a-aa) f" * 25)), False)
        one, same = "1 2 choose", "0 1 choose 2 1 choose"
        self.assertIs(agree(make(one + " (a-aa) f" * 25), make(same + " (a-aa) f" * 25)), True)

    def test_shapes_that_are_too_long_to_be_written(self):
        nested = "(a-aa) [ ] curry curry " * 12
        self.assertIs(agree(make(nested.strip()), make(nested + "(a-a)")), True)
        self.assertIs(agree(make(nested.strip()), make(nested + "[ ] compose")), True)
        self.assertIs(agree(make("t " + nested.strip()), make(nested.strip())), False)
        self.assertEqual(idle_words(make(nested + "(a-a)")), (48,))


class AgreeErrorsTest(unittest.TestCase):
    def test_errors_in_their_order(self):
        bad, worse, good = make("1 call"), make("t t (a-aa) call"), make("[ t ] (ab-ba) call")
        foreign = Program(Vocabulary(), "1 call")
        for value in NO_PROGRAMS:
            with self.subTest(value=value):
                for pair in ((value, bad), (value, None), (value, foreign), (bad, value), (good, value)):
                    with self.assertRaises(NotAProgram) as caught:
                        agree(*pair)
                    self.assertIs(caught.exception.value, value)
        for pair in ((bad, foreign), (foreign, bad), (good, foreign), (make(""), Program(Vocabulary(), ""))):
            self.assertRaises(Mismatch, agree, *pair)
        for pair, index in (((bad, worse), 1), ((worse, bad), 3), ((good, worse), 3), ((worse, good), 3)):
            with self.assertRaises(NoEffect) as caught:
                agree(*pair)
            self.assertEqual(caught.exception.index, index)

    def test_higher_order(self):
        for one, other in HIGHER_ORDER:
            with self.subTest(one=one, other=other):
                self.assertRaises(HigherOrder, agree, make(one), make(other))
                self.assertRaises(HigherOrder, agree, make(other), make(one))


class IdleWordsTest(unittest.TestCase):
    def test_places(self):
        places = {
            "": (), "t": (), "(-)": (0,), "(a-a)": (0,), "(a-a) (a-a)": (0, 1), "t t": (), "(ab-ba) (ab-ba)": (),
            "(ab-ab) t [ ] (a-a) call": (0, 3), "h 1 1 choose": (), "[ ] [ ] compose": (),
            "[ ] compose": (), "1 (-) 2": (1,), "(-) [ (-) ] call": (0,), "h (a-)": (),
            "[ t ] [ ] compose": (), "(a-aa) (ab-ba)": (1,), "h (a-aa) (ab-ba) f": (2,), "h h (ab-ba)": (2,),
            "(a-aa) choose": (), "[ t ] (a-a)": (1,), "call (a-a)": (1,), "(ab-ab) call": (0,), "t (a-)": (0,),
            "t (a-) h": (0,), "h t (a-)": (1,), "t t t (a-)": (0, 1, 2), "(a-) (ab-)": (),
        }
        for text, expected in places.items():
            with self.subTest(text=text):
                self.assertEqual(idle_words(make(text)), expected)
                self.assertIs(type(idle_words(make(text))), tuple)

    def test_each_place_stands_for_an_agreement(self):
        for pair in SAME + DIFFERENT:
            for text in pair:
                program = make(text)
                expected = []
                for place in range(len(program)):
                    try:
                        if agree(program, program.without(place)):
                            expected.append(place)
                    except (NoEffect, HigherOrder):
                        pass
                with self.subTest(text=text):
                    self.assertEqual(idle_words(program), tuple(expected))

    def test_comparisons_of_higher_order_are_passed_over(self):
        self.assertRaises(HigherOrder, agree, make("(ab-a) call"), make("call"))
        self.assertEqual(idle_words(make("(ab-a) call")), ())
        self.assertEqual(idle_words(make("(-) (ab-a) call (a-a)")), (0, 3))

    def test_by_keyword(self):
        self.assertEqual(idle_words(program=make("(-) t")), (0,))

    def test_errors_in_their_order(self):
        for value in NO_PROGRAMS:
            with self.subTest(value=value):
                with self.assertRaises(NotAProgram) as caught:
                    idle_words(value)
                self.assertIs(caught.exception.value, value)
        with self.assertRaises(NoEffect) as caught:
            idle_words(make("(-) [ t ] (ab-ba) call 1 call"))
        self.assertEqual(caught.exception.index, 5)
        for text in ("[ t ] (ab-ba) call", "(-) [ t ] (ab-ba) call", "[ [ t ] (ab-ba) call ]"):
            self.assertRaises(HigherOrder, idle_words, make(text))
        self.assertEqual(idle_words(make("(-) call")), (0,))


class CommuteTest(unittest.TestCase):
    def assert_commute(self, expected, one, other):
        with self.subTest(one=one, other=other):
            self.assertIs(commute(make(one), make(other)), expected)
            self.assertIs(commute(make(other), make(one)), expected)

    def test_programs_that_commute(self):
        pairs = (
            ("", ""), ("t", ""), ("t", "t"), ("t", "[ t ] dip"), ("t", "t t"), ("(ab-ba)", "(ab-ba)"), ("h", "h"),
            ("(abc-bca)", "(abc-cab)"), ("1", "1"), ("[ ]", "[ ]"), ("(a-)", "(a-)"), ("[ t ] dip", "t"), ("call", ""),
            ("h", "(-)"), ("(-)", "call"), ("t", "[ 1 ] dip"), ("[ g ] dip", "t"),
        )
        for one, other in pairs:
            self.assert_commute(True, one, other)

    def test_programs_that_do_not_commute(self):
        pairs = (
            ("1", "2"), ("t", "h"), ("t", "(a-) 1"), ("t", "(ab-ba)"), ("(abc-bca)", "(ab-ba)"), ("f", "t"), ("g", "t"),
            ("[ ]", "1"), ("(a-)", "h"), ("[ t ]", "[ t t ]"),
            # One order, or both, have no effect.
            ("[ ]", "t"), ("1", "call"), ("1 call", "t"), ("1 call", "1 call"), ("(a-aa)", "call"), ("1 call", ""),
        )
        for one, other in pairs:
            self.assert_commute(False, one, other)

    def test_size(self):
        half, more = make(" ".join(["[ t ]"] * 15)), make(" ".join(["t"] * 31))
        self.assertIs(commute(half, half), True)
        for pair in ((half, more), (more, half)):
            with self.assertRaises(TooLarge) as caught:
                commute(*pair)
            self.assertEqual(caught.exception.limit, 60)

    def test_by_keyword(self):
        self.assertIs(commute(other_program=make("t"), program=make("1")), False)

    def test_higher_order(self):
        self.assertRaises(HigherOrder, commute, make("[ t ] (ab-ba) call"), make(""))
        self.assertRaises(HigherOrder, commute, make(""), make("[ t ] (ab-ba) call"))
        # There is no common instance here.
        self.assertIs(commute(make("[ t ] (ab-ba) call"), make("1")), False)


class UndoesTest(unittest.TestCase):
    def test_programs_that_undo(self):
        pairs = (
            ("", ""), ("(ab-ba)", "(ab-ba)"), ("(abc-cab)", "(abc-bca)"), ("1", "(a-)"), ("h", "(a-)"),
            ("(a-aa)", "(a-)"), ("[ t ]", "(a-)"), ("[ ]", "call"), ("(a-aa)", "(ab-b)"), ("[ ] curry", "call"),
            ("(a-aa) t", "(ab-a)"), ("1 2", "f (a-)"), ("[ ]", "[ ] compose call"), ("h", "[ ] [ (a-a) ] choose call"),
        )
        for one, other in pairs:
            with self.subTest(one=one, other=other):
                self.assertIs(undoes(make(one), make(other)), True)

    def test_programs_that_do_not_undo(self):
        pairs = (
            ("t", ""), ("t", "t"), ("(a-)", "1"), ("(a-)", "h"), ("1", ""), ("(a-)", ""), ("(abc-cab)", "(abc-cab)"),
            ("(a-aa)", "f"), ("[ t ]", "call"), ("(a-)", "(a-aa)"), ("call", "[ ]"), ("t", "(a-) 1"), ("f", "g"),
            ("call", ""),
            # Without effect.
            ("1", "call"), ("1 call", ""), ("", "1 call"), ("(a-aa)", "call"), ("1 call", "1 call"),
        )
        for one, other in pairs:
            with self.subTest(one=one, other=other):
                self.assertIs(undoes(make(one), make(other)), False)

    def test_order_of_the_programs(self):
        self.assertIs(undoes(make("1"), make("(a-)")), True)
        self.assertIs(undoes(make("(a-)"), make("1")), False)

    def test_size(self):
        half, more = make(" ".join(["(-)"] * 30)), make(" ".join(["(-)"] * 31))
        self.assertIs(undoes(half, half), True)
        for pair in ((half, more), (more, half)):
            with self.assertRaises(TooLarge) as caught:
                undoes(*pair)
            self.assertEqual(caught.exception.limit, 60)

    def test_by_keyword(self):
        self.assertIs(undoes(other_program=make("(a-)"), program=make("1")), True)

    def test_higher_order(self):
        self.assertRaises(HigherOrder, undoes, make("(a-aa)"), make("[ [ t ] (ab-ba) call ] curry (a-)"))
        # There is no common instance here.
        self.assertIs(undoes(make("[ t ] (ab-ba)"), make("call")), False)


class JoinedErrorsTest(unittest.TestCase):
    def test_errors_in_their_order(self):
        large, foreign = make(" ".join(["1 call"] * 30)), Program(Vocabulary(), " ".join(["1 call"] * 30))
        for function in (commute, undoes):
            for value in NO_PROGRAMS:
                with self.subTest(function=function, value=value):
                    for pair in ((value, large), (value, None), (large, value), (value, foreign)):
                        with self.assertRaises(NotAProgram) as caught:
                            function(*pair)
                        self.assertIs(caught.exception.value, value)
            for pair in ((large, foreign), (foreign, large), (make(""), Program(Vocabulary(), ""))):
                self.assertRaises(Mismatch, function, *pair)
            for pair in ((large, large), (large, make("t")), (make("[ t ] (ab-ba) call"), large)):
                with self.assertRaises(TooLarge) as caught:
                    function(*pair)
                self.assertEqual(caught.exception.limit, 60)


class InterfaceTest(unittest.TestCase):
    def test_functions_are_defined_in_their_file(self):
        for name in ("agree", "idle_words", "commute", "undoes"):
            self.assertEqual(getattr(comparing, name).__module__, "stackquotes.comparing")


if __name__ == "__main__":
    unittest.main()
