import random
import unittest

from stackquotes.cases import cases, first_difference, unneeded
from stackquotes.comparing import agree
from stackquotes.effects import fit, is_first_order
from stackquotes.errors import HigherOrder, Mismatch, NoEffect, NotAProgram, TooLong, TooManyCases
from stackquotes.programs import Program
from stackquotes.samples import sample_program, sample_vocabulary
from stackquotes.vocabularies import Vocabulary
from tests import generating, reference
from tests.samples_of_values import make_odd_values

WORDS = sample_vocabulary()
MANY = Vocabulary(("d", 1, 0), ("n", 0, 0), ("three", 3, 3), ("two", 0, 2), ("one", 3, 1), ("abcdefgh", 1, 1))

# One test each, and nothing is left.
TEST = "1 2 choose (a-)"
SIXTY_FOUR = " ".join([TEST] * 6)
SIXTY_FIVE = f"[ {SIXTY_FOUR} ] [ (abcde-) (a-) ] choose call"

NO_PROGRAMS = ["", "t", WORDS, *make_odd_values()]

# These have effects, but are not first-order.
HIGHER_ORDER = (
    "call", "dip", "[ ]", "[ t ] curry", "[ t ]", "compose", "curry", "[ t ] (ab-ba) call", "choose call", "[ ] curry",
    "[ t ] [ t t ] choose (a-aa) (ab-a) (a-a)", "[ call ]",
)


def make(text):
    return Program(WORDS, text)


def grow(length):
    """Return the text of a program that leaves a term with this many characters, of at least 3."""
    if length <= 18:
        return "1" * length
    if length % 2 == 0:
        return grow((length - 4) // 2) + " (a-aa) f"
    return grow(length - 3) + " t"


def repeated_tests(many):
    """Return the terms of the tests that `ask_all` asks."""
    return ["t(" * times + "x0" + ")" * times for times in range(many)]


def ask_all(many, last):
    """Return the text of a program that asks many tests, and leaves 1 if one of them is true, otherwise the last."""
    return " ".join([str(last), "(ab-ba)", *["(ab-bba) 1 (abcd-abdc) choose (ab-ba) t"] * many, "(a-)"])


def yes(*terms):
    return tuple((term, True) for term in terms)


class CasesTest(unittest.TestCase):
    def assert_outputs(self, text, *outputs, words=WORDS):
        """Check a program that asks nothing."""
        with self.subTest(text=text):
            self.assertEqual(cases(Program(words, text)), (((), outputs),))

    def test_terms_of_integers(self):
        self.assert_outputs("0", "0")
        self.assert_outputs("-7 12", "-7", "12")
        self.assert_outputs("999999999999999999 -999999999999999999", "999999999999999999", "-999999999999999999")
        self.assert_outputs("-7 t", "t(-7)")

    def test_terms_of_inputs(self):
        self.assert_outputs("")
        self.assert_outputs("(-)")
        self.assert_outputs("(a-)")
        self.assert_outputs("(a-a)", "x0")
        self.assert_outputs("(abc-abc)", "x2", "x1", "x0")
        self.assert_outputs("(abc-cab)", "x0", "x2", "x1")
        self.assert_outputs("(abcde-a) [ (abcde-ea) ] dip", "x5", "x9", "x4")
        self.assert_outputs("(a-aa)", "x0", "x0")

    def test_terms_of_unknown_words(self):
        self.assert_outputs("t", "t(x0)")
        self.assert_outputs("t t", "t(t(x0))")
        self.assert_outputs("f", "f(x1,x0)")
        self.assert_outputs("(ab-ba) f", "f(x0,x1)")
        self.assert_outputs("3 f", "f(x0,3)")
        self.assert_outputs("h", "h()")
        self.assert_outputs("g", "g.0(x0)", "g.1(x0)")
        self.assert_outputs("g f t", "t(f(g.0(x0),g.1(x0)))")
        self.assert_outputs("h h f", "f(h(),h())")

    def test_words_with_no_and_many_inputs_and_outputs(self):
        self.assert_outputs("d", words=MANY)
        self.assert_outputs("n", words=MANY)
        self.assert_outputs("n d 1", "1", words=MANY)
        self.assert_outputs("two", "two.0()", "two.1()", words=MANY)
        self.assert_outputs("three", "three.0(x2,x1,x0)", "three.1(x2,x1,x0)", "three.2(x2,x1,x0)", words=MANY)
        self.assert_outputs("1 2 3 one abcdefgh", "abcdefgh(one(1,2,3))", words=MANY)
        self.assert_outputs("two 5 one", "one(two.0(),two.1(),5)", words=MANY)

    def test_words_that_have_the_names_of_inputs_or_of_parts(self):
        words = Vocabulary(("x", 1, 1), ("bottom", 0, 1), ("other", 0, 1), ("integer", 0, 1), ("stack", 1, 2))
        self.assert_outputs(
            "x bottom other integer stack", "x(x0)", "bottom()", "other()", "stack.0(integer())", "stack.1(integer())",
            words=words,
        )

    def test_quotations_that_are_executed(self):
        self.assert_outputs("[ t ] dip", "t(x1)", "x0")
        self.assert_outputs("[ f ] dip (ab-ba)", "x0", "f(x2,x1)")
        self.assert_outputs("[ f ] curry call", "f(x1,x0)")
        self.assert_outputs("[ t ] [ h f ] compose call", "f(t(x0),h())")
        self.assert_outputs("[ t ] (a-aa) compose (a-aa) compose call", "t(t(t(t(x0))))")
        self.assert_outputs("1 [ t ] [ h f ] choose (a-)")
        self.assert_outputs("0 [ [ t ] ] [ [ h f ] ] choose call call", "f(x0,h())")
        self.assert_outputs("[ call ] (a-)")

    def test_inputs_that_are_only_moved_are_counted(self):
        # A side of a choice that reads deeper makes both read deeper.
        self.assert_outputs("1 [ t ] [ [ (a-a) ] dip t ] choose call", "x1", "t(x0)")
        self.assert_outputs("t (abc-abc)", "x2", "x1", "t(x0)")

    def test_tests(self):
        self.assertEqual(cases(sample_program()), (
            ((("t(x0)", True),), ("f(x1,x0)",)),
            ((("t(x0)", False),), ("x0",)),
        ))
        self.assertEqual(cases(make("choose")), (
            ((("x2", True),), ("x1",)),
            ((("x2", False),), ("x0",)),
        ))
        self.assertEqual(cases(make("h 1 2 choose t")), (
            ((("h()", True),), ("t(1)",)),
            ((("h()", False),), ("t(2)",)),
        ))

    def test_tests_are_asked_even_if_nothing_depends_on_them(self):
        self.assertEqual(cases(make("1 1 choose")), (((("x0", True),), ("1",)), ((("x0", False),), ("1",))))
        self.assertEqual(cases(make(TEST)), (((("x0", True),), ()), ((("x0", False),), ())))

    def test_integers_are_not_asked(self):
        self.assert_outputs("1 2 3 choose", "2")
        self.assert_outputs("0 2 3 choose", "3")
        self.assert_outputs("-1 2 3 choose", "2")
        self.assert_outputs("0 2 0 choose 4 5 choose", "5")
        self.assertEqual(cases(make("1 0 choose 5 6 choose")), (((("x0", True),), ("5",)), ((("x0", False),), ("6",))))

    def test_tests_that_were_asked_are_not_asked_again(self):
        self.assertEqual(cases(make("(a-aa) 1 2 choose (ab-ba) 3 4 choose")), (
            ((("x0", True),), ("1", "3")),
            ((("x0", False),), ("2", "4")),
        ))
        # The same term, found in two ways.
        self.assertEqual(cases(make("(a-aa) t 1 2 choose (ab-ba) [ t ] call 3 4 choose")), (
            ((("t(x0)", True),), ("1", "3")),
            ((("t(x0)", False),), ("2", "4")),
        ))
        # The same term in one case only.
        self.assertEqual(cases(make("(a-aa) 1 2 choose t (ab-ba) [ 1 t ] [ 3 t ] choose call 5 6 choose")), (
            ((("x0", True), ("t(1)", True)), ("t(1)", "5")),
            ((("x0", True), ("t(1)", False)), ("t(1)", "6")),
            ((("x0", False), ("t(3)", True)), ("t(2)", "5")),
            ((("x0", False), ("t(3)", False)), ("t(2)", "6")),
        ))

    def test_order_of_the_cases(self):
        self.assertEqual(cases(make("[ 1 2 choose ] dip [ 3 ] [ h 4 5 choose ] choose call")), (
            ((("x1", True), ("x0", True)), ("1", "3")),
            ((("x1", True), ("x0", False), ("h()", True)), ("1", "4")),
            ((("x1", True), ("x0", False), ("h()", False)), ("1", "5")),
            ((("x1", False), ("x0", True)), ("2", "3")),
            ((("x1", False), ("x0", False), ("h()", True)), ("2", "4")),
            ((("x1", False), ("x0", False), ("h()", False)), ("2", "5")),
        ))

    def test_kinds_of_results(self):
        found = cases(sample_program())
        self.assertIs(type(found), tuple)
        for case in found:
            self.assertEqual([type(part) for part in (case, *case, *case[0])], [tuple] * (3 + len(case[0])))
            self.assertIs(type(case[0][0][1]), bool)

    def test_by_keyword_and_again(self):
        program = sample_program()
        self.assertEqual(cases(program=program), cases(program))

    def test_number_of_cases(self):
        self.assertEqual(len(cases(make(SIXTY_FOUR))), 64)
        self.assertEqual(cases(make(SIXTY_FOUR))[0], (yes("x0", "x1", "x2", "x3", "x4", "x5"), ()))
        self.assertEqual(len(cases(make(f"{SIXTY_FOUR} 1 {TEST}"))), 64)
        for text in (SIXTY_FIVE, f"{SIXTY_FOUR} {TEST}", " ".join(["choose"] * 60), f"{SIXTY_FOUR} h {TEST}"):
            with self.subTest(text=text):
                with self.assertRaises(TooManyCases) as caught:
                    cases(make(text))
                self.assertEqual(caught.exception.limit, 64)

    def test_length_of_terms(self):
        for length in (1999, 2000):
            self.assertEqual(len(cases(make(grow(length)))[0][1][0]), length)
            self.assertEqual(len(cases(make(f"{grow(length)} {TEST}"))[0][0][0][0]), length)
        for text in (
            grow(2001), grow(2002), f"{grow(2001)} {TEST}", f"1 {grow(2001)} 2", f"{grow(2000)} t",
            # Only in one case.
            f"[ 1 ] [ {grow(2001)} ] choose call",
            # Far longer than could be written out.
            "t" + " (a-aa) f" * 29, "t" + " (a-aa) f" * 27 + " 1 2 choose", "[ (a-aa) f ]" + " (a-aa) compose" * 7 + " call",
        ):
            with self.subTest(text=text):
                with self.assertRaises(TooLong) as caught:
                    cases(make(text))
                self.assertEqual(caught.exception.limit, 2000)

    def test_long_terms_that_no_case_contains(self):
        self.assert_outputs(f"{grow(2001)} (a-)")
        self.assert_outputs("t" + " (a-aa) f" * 27 + " (a-) 1", "1")
        self.assertEqual(len(cases(make("t" + " (a-aa) f" * 20 + " [ 1 2 choose ] dip (a-) 3 f"))), 2)

    def test_errors_in_their_order(self):
        for value in NO_PROGRAMS:
            with self.subTest(value=value):
                with self.assertRaises(NotAProgram) as caught:
                    cases(value)
                self.assertIs(caught.exception.value, value)
        for text, index in (("1 call", 1), ("call [ ] 1 2 call", 4), ("[ 1 call ]", 0), (f"{SIXTY_FOUR} {TEST} 1 call", 29)):
            with self.assertRaises(NoEffect) as caught:
                cases(make(text))
            self.assertEqual(caught.exception.index, index)
        for text in HIGHER_ORDER + (f"{SIXTY_FOUR} {TEST} [ ]", grow(2001) + " [ ]"):
            with self.subTest(text=text):
                self.assertRaises(HigherOrder, cases, make(text))
        self.assertRaises(TooManyCases, cases, make("t" + " (a-aa) f" * 12 + f" {SIXTY_FOUR} {TEST}"))
        self.assertRaises(TooLong, cases, make("t" + " (a-aa) f" * 12 + f" {SIXTY_FOUR}"))

    def test_random_programs(self):
        source = random.Random(20)
        found = 0
        for attempt in range(1500):
            row = generating.make_row_with_effect(source, source.randint(0, 9))
            program = Program(generating.WORDS, " ".join(row))
            with self.subTest(text=program.text):
                if reference.first_order(generating.WORDS, program.text) is None:
                    self.assertRaises(HigherOrder, cases, program)
                    continue
                found += 1
                self.assertEqual(cases(program), reference.cases(generating.WORDS, program.text, 65))
        self.assertGreater(found, 500)


class FirstDifferenceTest(unittest.TestCase):
    def assert_difference(self, one, other, expected):
        with self.subTest(one=one, other=other):
            self.assertEqual(first_difference(make(one), make(other)), expected)

    def test_programs_that_agree(self):
        for one, other in (
            ("", ""), ("t", "t"), ("t", "(-) t"), ("", "(abc-abc)"), ("1 1 choose", "(a-) 1"), ("h (a-)", ""),
            ("choose", "(abc-abc) choose"), ("t", "[ t ] call"), ("1 2 choose 3 4 choose", "(a-) 3"),
            ("t 1 2 choose", "t [ 1 ] [ 2 ] choose call"), ("[ t ] dip", "(ab-ba) t (ab-ba)"),
        ):
            self.assert_difference(one, other, None)

    def test_programs_without_a_common_instance(self):
        for one, other in (("", "1"), ("(a-)", "(a-aa)"), ("t", "f"), ("g", "t"), (SIXTY_FIVE, "")):
            self.assert_difference(one, other, ())
            self.assert_difference(other, one, ())

    def test_differences_without_tests(self):
        self.assert_difference("1", "2", ((), 0, ("1", "2")))
        self.assert_difference("t", "", ((), 0, ("t(x0)", "x0")))
        self.assert_difference("(ab-ba)", "", ((), 0, ("x1", "x0")))
        self.assert_difference("1 2 3", "4 2 3", ((), 2, ("1", "4")))
        self.assert_difference("1 2 3", "4 5 3", ((), 1, ("2", "5")))
        self.assert_difference("g", "g (ab-ba)", ((), 0, ("g.1(x0)", "g.0(x0)")))

    def test_programs_of_different_reach(self):
        self.assert_difference("t", "[ t ] dip t", ((), 1, ("x1", "t(x1)")))
        self.assert_difference("[ t ] dip t", "t", ((), 1, ("t(x1)", "x1")))
        self.assert_difference("", "(abcde-bacde)", ((), 3, ("x3", "x4")))
        self.assert_difference("(abcde-bacde)", "(-)", ((), 3, ("x4", "x3")))
        self.assert_difference("h", "(ab-abb)", ((), 0, ("h()", "x0")))

    def test_the_first_case_in_which_they_differ(self):
        self.assert_difference("t 1 2 choose", "t 1 3 choose", ((("t(x0)", False),), 0, ("2", "3")))
        self.assert_difference("t 1 2 choose", "t 3 2 choose", ((("t(x0)", True),), 0, ("1", "3")))
        self.assert_difference("t (a-aa) [ t ] [ ] choose call", "t t", ((("t(x0)", False),), 0, ("t(x0)", "t(t(x0))")))
        self.assert_difference("(a-) 1", "1 2 choose", ((("x0", False),), 0, ("1", "2")))
        self.assert_difference(
            "1 2 choose (ab-ba) 3 4 choose", "1 2 choose (ab-ba) 3 5 choose",
            ((("x0", True), ("x1", False)), 0, ("4", "5")),
        )

    def test_all_tests_of_the_case_are_told(self):
        # The other program asks first what the program asks last, and then something of its own.
        self.assert_difference(
            "[ 1 2 choose ] dip 1 2 choose", "1 2 choose [ (a-) h 1 2 choose ] dip",
            ((("x1", True), ("x0", True), ("h()", False)), 1, ("1", "2")),
        )
        # Tests that are asked after the values that differ were made are told, too.
        self.assert_difference("1 h 2 2 choose (a-)", "3 h t 2 2 choose (a-)", (yes("h()", "t(h())"), 0, ("1", "3")))

    def test_order_of_the_programs(self):
        self.assert_difference("t 1 2 choose", "h 1 2 choose (ab-b)", (
            (("t(x0)", True), ("h()", False)), 0, ("1", "2"),
        ))
        self.assert_difference("h 1 2 choose (ab-b)", "t 1 2 choose", (
            (("h()", True), ("t(x0)", False)), 0, ("1", "2"),
        ))

    def test_kinds_of_results(self):
        found = first_difference(make("t 1 2 choose"), make("t 1 3 choose"))
        self.assertEqual([type(part) for part in (found, *found, found[0][0])], [tuple, tuple, int, tuple, tuple])

    def test_number_of_cases(self):
        self.assert_difference(SIXTY_FOUR, f"(-) {SIXTY_FOUR}", None)
        # Only the last case shows the difference.
        self.assert_difference(ask_all(6, 2), ask_all(6, 3), (
            tuple((term, False) for term in repeated_tests(6)), 0, ("2", "3"),
        ))
        # A difference among the first cases is told, however many there are.
        self.assert_difference(f"{SIXTY_FIVE} 1", f"{SIXTY_FIVE} 2", (
            yes("x0", *[f"x{number}" for number in range(1, 7)]), 0, ("1", "2"),
        ))
        pairs = (
            (SIXTY_FIVE, SIXTY_FIVE), (f"{SIXTY_FOUR} {TEST}", f"{SIXTY_FOUR} {TEST}"),
            # The cases of both together count.
            (f"{SIXTY_FOUR} (a-)", f"{SIXTY_FOUR} {TEST}"), (SIXTY_FOUR, f"h {TEST} {SIXTY_FOUR}"),
            # They differ in the last of 128 cases.
            (ask_all(7, 2), ask_all(7, 3)),
        )
        for one, other in pairs:
            with self.subTest(one=one, other=other):
                with self.assertRaises(TooManyCases) as caught:
                    first_difference(make(one), make(other))
                self.assertEqual(caught.exception.limit, 64)

    def test_length_of_terms(self):
        long, longest, endless = grow(2001), grow(2000), "t" + " (a-aa) f" * 20
        term = cases(make(longest))[0][1][0]
        self.assert_difference(longest, "1", ((), 0, (term, "1")))
        self.assert_difference("1", longest, ((), 0, ("1", term)))
        self.assert_difference(f"{longest} 1 2 choose", f"{longest} 1 3 choose", (((term, False),), 0, ("2", "3")))
        # Long terms that the result does not contain.
        self.assert_difference(f"{long} 1", f"{long} 2", ((), 0, ("1", "2")))
        self.assert_difference(f"{long} 1", f"{longest} 2", ((), 0, ("1", "2")))
        self.assert_difference(f"1 {long}", f"2 {long}", ((), 1, ("1", "2")))
        self.assert_difference(f"{long} t", f"{long} t", None)
        self.assert_difference(endless, endless + " (-)", None)
        for one, other in (
            (long, "1"), ("1", long), (endless, "t"), ("t", endless), (endless, endless + " t"),
            (f"{long} 1 2 choose", f"{long} 1 3 choose"), (f"{long} {TEST} 1", "2"), ("1", f"{long} {TEST} 2"),
        ):
            with self.subTest(one=one, other=other):
                with self.assertRaises(TooLong) as caught:
                    first_difference(make(one), make(other))
                self.assertEqual(caught.exception.limit, 2000)

    def test_by_keyword(self):
        self.assertEqual(first_difference(other_program=make("2"), program=make("1")), ((), 0, ("1", "2")))

    def test_errors_in_their_order(self):
        bad, worse, higher = make("1 call"), make("t t (a-aa) call"), make("call")
        foreign = Program(Vocabulary(), "1 call")
        for value in NO_PROGRAMS:
            with self.subTest(value=value):
                for pair in ((value, bad), (value, None), (value, foreign), (bad, value), (higher, value)):
                    with self.assertRaises(NotAProgram) as caught:
                        first_difference(*pair)
                    self.assertIs(caught.exception.value, value)
        for pair in ((bad, foreign), (foreign, bad), (higher, foreign), (make(""), Program(Vocabulary(), ""))):
            self.assertRaises(Mismatch, first_difference, *pair)
        for pair, index in (((bad, worse), 1), ((worse, bad), 3), ((higher, worse), 3), ((worse, higher), 3)):
            with self.assertRaises(NoEffect) as caught:
                first_difference(*pair)
            self.assertEqual(caught.exception.index, index)
        for text in HIGHER_ORDER:
            for other in ("", text, SIXTY_FIVE, grow(2001)):
                with self.subTest(text=text, other=other):
                    self.assertRaises(HigherOrder, first_difference, make(text), make(other))
                    self.assertRaises(HigherOrder, first_difference, make(other), make(text))
        tests = " ".join(["h", *["(a-aaaa) choose (ab-a) t"] * 7, "(a-)"])
        self.assertRaises(TooManyCases, first_difference, make(f"{tests} {grow(2001)}"), make(f"{tests} {grow(2001)}"))
        self.assertRaises(TooLong, first_difference, make(f"{tests} {grow(2001)}"), make(f"{tests} 1"))

    def test_random_programs(self):
        source = random.Random(21)
        found = {None: 0, (): 0, tuple: 0}
        for attempt in range(1500):
            row = generating.make_row_with_effect(source, source.randint(0, 8))
            texts = " ".join(row), " ".join(generating.change_row(source, row))
            pair = [Program(generating.WORDS, text) for text in texts]
            if not all(is_first_order(program) for program in pair):
                continue
            with self.subTest(texts=texts):
                difference = first_difference(*pair)
                self.assertEqual(difference is None, agree(*pair))
                self.assertEqual(difference == (), not fit(*pair))
                if difference != ():
                    expected, followed = reference.first_difference(generating.WORDS, *texts, 65)
                    self.assertLessEqual(followed, 64)
                    self.assertEqual(difference, expected)
                found[tuple if difference else difference] += 1
        self.assertGreater(min(found.values()), 10)


class UnneededTest(unittest.TestCase):
    def test_numbers(self):
        numbers = {
            "": (), "1": (), "(a-)": (0,), "(abc-)": (0, 1, 2), "(a-a)": (), "(abc-cc) f": (1, 2), "(ab-ba)": (),
            "(a-aa)": (), "t": (), "t (a-)": (0,), "f (a-) h": (0, 1), "(abcde-ca)": (0, 1, 3),
            # Seen by a test only.
            "1 1 choose": (0,), "1 2 choose": (), TEST: (0,), "1 2 choose (a-) 3": (0,), "choose": (),
            "t 1 1 choose": (0,), "f 1 2 choose (a-)": (0, 1), "(ab-abb) choose": (1,), "(abc-abb) choose": (0, 2),
            "[ t ] [ t ] choose call": (0,), "[ t ] [ h f ] choose call": (),
            # In one case only.
            "h [ (a-) 1 ] [ t ] choose call": (), "h [ (a-) 1 ] [ (a-) 2 ] choose call": (0,),
            "0 [ t ] [ (a-) 1 ] choose call": (0,), "1 [ t ] [ (a-) 1 ] choose call": (),
            # Tested twice: the second answer is known.
            "(a-aa) [ 1 2 choose ] [ 1 2 choose ] choose call": (), "(a-aa) [ 1 2 choose ] [ 1 1 choose ] choose call": (0,),
            "(a-aa) [ 1 2 choose ] [ 3 1 choose ] choose call": (0,), "(a-aa) 1 2 choose (ab-ba) 2 1 choose f": (),
            # Both answers lead to the same value in another way.
            "h (ab-baba) [ 1 ] [ 2 ] choose (abc-ab) (a-) (a-)": (0,),
        }
        for text, expected in numbers.items():
            with self.subTest(text=text):
                self.assertEqual(unneeded(make(text)), reference.unneeded(WORDS, text))
                self.assertEqual(unneeded(make(text)), expected)
                self.assertIs(type(unneeded(make(text))), tuple)

    def test_words_that_have_the_names_of_inputs(self):
        words = Vocabulary(("x", 1, 1), ("other", 0, 1), ("bottom", 1, 1))
        self.assertEqual(unneeded(Program(words, "(ab-b) x other bottom")), (1,))

    def test_long_terms_are_allowed(self):
        self.assertEqual(unneeded(make("t" + " (a-aa) f" * 27)), ())
        self.assertEqual(unneeded(make("t" + " (a-aa) f" * 27 + " 1 1 choose")), (0,))
        self.assertEqual(unneeded(make(f"(ab-a) {grow(2001)} f")), (0,))

    def test_many_inputs(self):
        self.assertEqual(unneeded(make("(abcde-) " * 59 + "t")), tuple(range(295)))

    def test_number_of_cases(self):
        self.assertEqual(unneeded(make(SIXTY_FOUR)), (0, 1, 2, 3, 4, 5))
        self.assertEqual(unneeded(make(ask_all(6, 2))), ())
        self.assertEqual(unneeded(make(ask_all(6, 1))), (0,))
        for text in (SIXTY_FIVE, f"{SIXTY_FOUR} {TEST}", ask_all(7, 2)):
            with self.assertRaises(TooManyCases) as caught:
                unneeded(make(text))
            self.assertEqual(caught.exception.limit, 64)

    def test_by_keyword(self):
        self.assertEqual(unneeded(program=make("(a-)")), (0,))

    def test_errors_in_their_order(self):
        for value in NO_PROGRAMS:
            with self.subTest(value=value):
                with self.assertRaises(NotAProgram) as caught:
                    unneeded(value)
                self.assertIs(caught.exception.value, value)
        with self.assertRaises(NoEffect) as caught:
            unneeded(make("[ ] call call 1 call"))
        self.assertEqual(caught.exception.index, 4)
        for text in HIGHER_ORDER + (f"{SIXTY_FOUR} {TEST} [ ]",):
            self.assertRaises(HigherOrder, unneeded, make(text))

    def test_random_programs(self):
        source = random.Random(22)
        found = 0
        for attempt in range(800):
            row = generating.make_row_with_effect(source, source.randint(0, 8))
            program = Program(generating.WORDS, " ".join(row))
            if not is_first_order(program):
                continue
            with self.subTest(text=program.text):
                expected = reference.unneeded(generating.WORDS, program.text)
                self.assertEqual(unneeded(program), expected)
                found += len(expected)
        self.assertGreater(found, 50)


class InterfaceTest(unittest.TestCase):
    def test_functions_are_defined_in_their_file(self):
        for function in (cases, first_difference, unneeded):
            self.assertEqual(function.__module__, "stackquotes.cases")


if __name__ == "__main__":
    unittest.main()
