import random
import unittest

from stackquotes.cases import first_difference
from stackquotes.certificates import certify_agreement, certify_difference, certify_effect
from stackquotes.checker import holds
from stackquotes.comparing import agree
from stackquotes.effects import effect
from stackquotes.errors import HigherOrder, Mismatch, NoEffect, NotAProgram, TooLong, TooManyCases
from stackquotes.programs import Program
from stackquotes.samples import sample_program, sample_vocabulary
from stackquotes.vocabularies import Vocabulary
from tests import generating
from tests.long_effects import EFFECT_2000, ENDLESS, TEXT_2000, TEXT_2001
from tests.samples_of_values import make_odd_values
from tests.test_cases import SIXTY_FIVE, SIXTY_FOUR, TEST, ask_all, grow

WORDS = sample_vocabulary()
V = str(WORDS)
NO_PROGRAMS = ["", "t", WORDS, *make_odd_values()]


def make(text):
    return Program(WORDS, text)


class CertificateCase(unittest.TestCase):
    def assert_certificate(self, found, claim, paper):
        self.assertEqual(found, (claim, paper))
        self.assertEqual([type(part) for part in (found, *found)], [tuple, tuple, type(paper)])
        self.assertIs(holds(*found), True)

    def assert_no_programs(self, function):
        """Check what functions of two programs raise first of all."""
        bad, foreign = make("1 call"), Program(Vocabulary(), "1 call")
        for value in NO_PROGRAMS:
            with self.subTest(value=value):
                for pair in ((value, bad), (value, None), (value, foreign), (bad, value), (make("call"), value)):
                    with self.assertRaises(NotAProgram) as caught:
                        function(*pair)
                    self.assertIs(caught.exception.value, value)
        for pair in ((bad, foreign), (foreign, bad), (make(""), Program(Vocabulary(), ""))):
            self.assertRaises(Mismatch, function, *pair)
        for pair, index in (((bad, make("t 1 call")), 1), ((make("t 1 call"), bad), 2), ((make("call"), bad), 1), ((bad, make("call")), 1)):
            with self.assertRaises(NoEffect) as caught:
                function(*pair)
            self.assertEqual(caught.exception.index, index)


class EffectTest(CertificateCase):
    def test_effects(self):
        for text in ("", "t", "call", "curry", "[ [ t ] ]", "[ t ] (ab-ba) call", sample_program().text):
            with self.subTest(text=text):
                self.assert_certificate(certify_effect(make(text)), ("effect", V, text, effect(make(text))), ())
        self.assert_certificate(certify_effect(Program(Vocabulary(), "1")), ("effect", "", "1", "s0 -> s0 *"), ())

    def test_programs_without_effects(self):
        for text, index in (("1 call", 1), ("(a-aa) call", 1), ("[ 1 call ]", 0), ("t t [ ] t t", 3), ("1 call 1 call", 1)):
            with self.subTest(text=text):
                self.assert_certificate(certify_effect(make(text)), ("none", V, text, index), ())

    def test_length(self):
        self.assert_certificate(certify_effect(make(TEXT_2000)), ("effect", V, TEXT_2000, EFFECT_2000), ())
        for text in (TEXT_2001, ENDLESS):
            with self.assertRaises(TooLong) as caught:
                certify_effect(make(text))
            self.assertEqual(caught.exception.limit, 2000)
        # What has no effect has no text of one either.
        self.assert_certificate(certify_effect(make(f"{TEXT_2001} call 1 call")), ("none", V, f"{TEXT_2001} call 1 call", 28), ())

    def test_no_programs(self):
        for value in NO_PROGRAMS:
            with self.subTest(value=value):
                with self.assertRaises(NotAProgram) as caught:
                    certify_effect(value)
                self.assertIs(caught.exception.value, value)

    def test_by_keyword_and_again(self):
        self.assertEqual(certify_effect(program=make("t")), certify_effect(make("t")))


class AgreementTest(CertificateCase):
    def test_programs_that_agree(self):
        for one, other in (("t", "t [ ] call"), ("", ""), ("[ h ] compose", "[ call h ] curry"), ("call", "(-) call"), (SIXTY_FIVE, SIXTY_FIVE)):
            with self.subTest(one=one, other=other):
                self.assert_certificate(certify_agreement(make(one), make(other)), ("agree", V, one, other), ())

    def test_programs_that_do_not_agree(self):
        for one, other in (("t", "t t"), ("t", "f"), ("[ t ]", "[ t t ]"), ("t 1 2 choose", "t 1 3 choose"), ("call", "1")):
            self.assertIsNone(certify_agreement(make(one), make(other)))

    def test_errors(self):
        self.assert_no_programs(certify_agreement)
        for one, other in (("[ t ] (ab-ba) call", "[ t ] (ab-ba) call"), ("call", "(ab-a) call")):
            self.assertRaises(HigherOrder, certify_agreement, make(one), make(other))
        self.assertIsNone(certify_agreement(make("[ t ] (ab-ba) call"), make("1")))

    def test_by_keyword(self):
        self.assertEqual(certify_agreement(other_program=make("(-)"), program=make("")), (("agree", V, "", "(-)"), ()))


class DifferenceTest(CertificateCase):
    def test_differences(self):
        for one, other, paper in (
            ("t", "t t", ()), ("1", "2", ()), ("t 1 2 choose", "t 1 3 choose", (False,)), ("t 1 2 choose", "t 3 2 choose", (True,)),
            ("1 2 choose (ab-ba) 3 4 choose", "1 2 choose (ab-ba) 3 5 choose", (True, False)),
            ("t 1 2 choose", "h 1 2 choose (ab-b)", (True, False)), ("h 1 2 choose (ab-b)", "t 1 2 choose", (True, False)),
            (ask_all(6, 2), ask_all(6, 3), (False,) * 6), (f"{SIXTY_FIVE} 1", f"{SIXTY_FIVE} 2", (True,) * 7),
            ("t", "(a-aa) choose", "effects"), ("t", "f", "effects"), ("", "1", "effects"),
        ):
            with self.subTest(one=one, other=other):
                self.assert_certificate(certify_difference(make(one), make(other)), ("differ", V, one, other), paper)

    def test_programs_that_agree(self):
        for one, other in (("t", "t"), ("", "(abc-abc)"), (SIXTY_FOUR, SIXTY_FOUR), (grow(2001), grow(2001))):
            self.assertIsNone(certify_difference(make(one), make(other)))

    def test_errors(self):
        self.assert_no_programs(certify_difference)
        for text in ("call", "[ ]", "[ t ] curry", "[ t ] (ab-ba) call"):
            for other in ("", "1 1 1 1", text, SIXTY_FIVE, grow(2001)):
                self.assertRaises(HigherOrder, certify_difference, make(text), make(other))
                self.assertRaises(HigherOrder, certify_difference, make(other), make(text))
        for one, other in ((SIXTY_FIVE, SIXTY_FIVE), (ask_all(7, 2), ask_all(7, 3))):
            with self.assertRaises(TooManyCases) as caught:
                certify_difference(make(one), make(other))
            self.assertEqual(caught.exception.limit, 64)
        for one, other in ((grow(2001), "1"), ("1", grow(2001)), (f"{grow(2001)} {TEST} 1", "2")):
            with self.assertRaises(TooLong) as caught:
                certify_difference(make(one), make(other))
            self.assertEqual(caught.exception.limit, 2000)

    def test_by_keyword(self):
        self.assertEqual(certify_difference(other_program=make("2"), program=make("1")), (("differ", V, "1", "2"), ()))


class RandomTest(CertificateCase):
    def test_random_programs(self):
        source = random.Random(70)
        found = {"effect": 0, "none": 0, "agree": 0, "differ": 0}
        for attempt in range(1500):
            make_row = source.choice((generating.make_row, generating.make_row_with_effect))
            row = make_row(source, source.randint(1, 7))
            texts = " ".join(row), " ".join(generating.change_row(source, row))
            pair = [Program(generating.WORDS, text) for text in texts]
            with self.subTest(texts=texts):
                for function, arguments in (
                    (certify_effect, pair[:1]), (certify_agreement, pair), (certify_difference, pair),
                ):
                    try:
                        certificate = function(*arguments)
                    except (NoEffect, HigherOrder):
                        continue
                    if certificate is None:
                        self.assertIs(agree(*pair), function == certify_difference)
                        continue
                    found[certificate[0][0]] += 1
                    self.assertIs(holds(*certificate), True)
                    if function == certify_difference:
                        difference = first_difference(*pair)
                        paper = tuple(answer for term, answer in difference[0]) if difference else "effects"
                        self.assertEqual(certificate[1], paper)
        self.assertGreater(min(found.values()), 50)


class InterfaceTest(unittest.TestCase):
    def test_functions_are_defined_in_their_file(self):
        for function in (certify_effect, certify_agreement, certify_difference):
            self.assertEqual(function.__module__, "stackquotes.certificates")


if __name__ == "__main__":
    unittest.main()
