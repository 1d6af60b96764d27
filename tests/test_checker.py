import random
import unittest

from stackquotes.cases import first_difference
from stackquotes.checker import holds
from stackquotes.comparing import agree
from stackquotes.effects import fit, is_first_order
from stackquotes.errors import HigherOrder, NoEffect, TooManyCases
from stackquotes.programs import Program
from stackquotes.samples import sample_vocabulary
from stackquotes.vocabularies import Vocabulary
from tests import generating, reference
from tests.long_effects import EFFECT_2000, EFFECT_2001, ENDLESS, TEXT_2000, TEXT_2001
from tests.samples_of_values import make_odd_values

WORDS = sample_vocabulary()
V = str(WORDS)
DEEPEST, TOO_DEEP = "[ [ [ [ [ [ ] ] ] ] ] ]", "[ [ [ [ [ [ [ ] ] ] ] ] ] ]"
LARGEST, TOO_LARGE = " ".join(["(-)"] * 60), " ".join(["(-)"] * 61)

RIGHT = (
    (("effect", V, "", "s0 -> s0"), ()),
    (("effect", V, "t", "s0 * -> s0 *"), ()),
    (("effect", V, "curry", "s0 a0 [s1 a0 -> s2] -> s0 [s1 -> s2]"), ()),
    (("effect", V, "[ t ] (ab-ba) call", "s0 [s0 [s1 * -> s1 *] -> s2] -> s2"), ()),
    (("effect", V, LARGEST, "s0 -> s0"), ()),
    (("effect", V, TEXT_2000, EFFECT_2000), ()),
    (("effect", "", "5", "s0 -> s0 *"), ()),
    (("none", V, "(a-aa) call", 1), ()),
    (("none", V, "1 2 [ 1 call ]", 2), ()),
    (("none", V, "[ 1 call ]", 0), ()),
    (("agree", V, "t", "t [ ] call"), ()),
    (("agree", V, "", "(ab-ba) (ab-ba)"), ()),
    (("agree", V, "[ h ] compose", "[ call h ] curry"), ()),
    (("agree", V, LARGEST, ""), ()),
    (("agree", V, DEEPEST, DEEPEST), ()),
    (("differ", V, "t", "(a-aa) choose"), "effects"),
    (("differ", V, "t", "[ t ]"), "effects"),
    (("differ", V, "call", "1"), "effects"),
    (("differ", V, "t", "t t"), ()),
    (("differ", V, "1", "2"), ()),
    (("differ", V, "t 1 2 choose", "t 2 1 choose"), (True,)),
    (("differ", V, "t 1 2 choose", "t 2 1 choose"), (False,)),
    (("differ", V, "t 1 2 choose", "t 1 3 choose"), (False,)),
    (("differ", V, "1 2 choose (ab-ba) 3 4 choose", "1 2 choose (ab-ba) 3 5 choose"), (True, False)),
    (("differ", V, "1 2 choose (ab-ba) 3 4 choose", "1 2 choose (ab-ba) 3 5 choose"), (False, False)),
    (("differ", V, "t 1 2 choose", "h 1 2 choose (ab-b)"), (True, False)),
    (("differ", V, "t 1 2 choose", "h 1 2 choose (ab-b)"), (False, True)),
    # There are far more than 64 cases.
    (("differ", V, " ".join(["1 2 choose"] * 2 + ["choose"] * 20 + ["1"]), " ".join(["1 2 choose"] * 2 + ["choose"] * 20 + ["2"])),
     (True,) * 21),
)

WRONG = (
    # Claims that are false.
    (("effect", V, "t", "s0 -> s0"), ()), (("effect", V, "t", "s0 a0 -> s0 a0"), ()), (("effect", V, "t", "s0 * -> s0 * "), ()),
    (("effect", V, "t", " s0 * -> s0 *"), ()), (("effect", V, "t", "s0 *->s0 *"), ()), (("effect", V, "t", "s0  * -> s0 *"), ()),
    (("effect", V, "t", "s1 * -> s1 *"), ()), (("effect", V, "t", "s * -> s *"), ()), (("effect", V, "t", ""), ()),
    (("effect", V, "t", "s0 * -> s0"), ()), (("effect", V, "t", "s0 * -> s0 * *"), ()), (("effect", V, "t", "[s0 * -> s0 *]"), ()),
    (("effect", V, "(ab-ba)", "s0 a1 a0 -> s0 a0 a1"), ()), (("effect", V, "(ab-ba)", "s0 a0 a1 -> s0 a0 a1"), ()),
    (("effect", V, "(ab-ba)", "s0 a0 a0 -> s0 a0 a0"), ()), (("effect", V, "(ab-ba)", "s0 a0 b0 -> s0 b0 a0"), ()),
    (("effect", V, "(ab-ba)", "s0 * * -> s0 * *"), ()), (("effect", V, "curry", "s0 a0 [s2 a0 -> s1] -> s0 [s2 -> s1]"), ()),
    (("effect", V, "1 call", "s0 -> s0"), ()), (("effect", V, "1 call", ""), ()), (("effect", V, "1 call", 1), ()),
    (("effect", V, ENDLESS, EFFECT_2000), ()), (("effect", V, TEXT_2000, EFFECT_2000[:-2]), ()),
    (("none", V, "t", 0), ()), (("none", V, "", 0), ()), (("none", V, "1 call", 0), ()), (("none", V, "1 call", 2), ()),
    (("none", V, "1 call", -1), ()), (("none", V, "1 call", "1"), ()), (("none", V, "1 call", None), ()),
    (("agree", V, "t", "t t"), ()), (("agree", V, "t", "f"), ()), (("agree", V, "1 call", "1 call"), ()),
    (("agree", V, "t", "1 call"), ()), (("agree", V, "1 call", "t"), ()), (("agree", V, "t 1 2 choose", "t 1 3 choose"), ()),
    # They agree, but their order is above 2.
    (("agree", V, "[ t ] (ab-ba) call", "[ t ] (ab-ba) call"), ()), (("agree", V, "call", "(ab-a) call"), ()),
    (("differ", V, "t", "t"), ()), (("differ", V, "t", "t"), "effects"), (("differ", V, "t", "t [ ] call"), ()),
    (("differ", V, "1 call", "t"), "effects"), (("differ", V, "t", "1 call"), "effects"), (("differ", V, "1 call", "1 call"), ()),
    (("differ", V, "1 call", "t"), ()), (("differ", V, "1 call", "t 1 call"), "effects"),
    # Papers that show nothing.
    (("differ", V, "t", "t t"), "effects"), (("differ", V, "t", "[ t ]"), ()), (("differ", V, "t", "f"), (True,)),
    (("differ", V, "t", "f"), ()), (("differ", V, "t", "f"), "Effects"), (("differ", V, "t", "f"), "effect"),
    (("differ", V, "t", "f"), "effects "), (("differ", V, "t", "f"), ("effects",)), (("differ", V, "t", "f"), b"effects"),
    (("differ", V, "t", "f"), ""), (("differ", V, "t", "t t"), (True,)), (("differ", V, "t", "t t"), (False,)),
    (("differ", V, "t 1 2 choose", "t 1 3 choose"), (True,)), (("differ", V, "t 1 2 choose", "t 1 3 choose"), ()),
    (("differ", V, "t 1 2 choose", "t 1 3 choose"), (False, False)), (("differ", V, "t 1 2 choose", "t 1 3 choose"), (False, True)),
    (("differ", V, "t 1 2 choose", "t 1 3 choose"), (True, False)), (("differ", V, "t 1 2 choose", "t 1 3 choose"), "effects"),
    (("differ", V, "t 1 2 choose", "t 1 3 choose"), (0,)), (("differ", V, "t 1 2 choose", "t 1 3 choose"), (None,)),
    (("differ", V, "t 1 2 choose", "t 1 3 choose"), ("False",)), (("differ", V, "t 1 2 choose", "t 1 3 choose"), ((False,),)),
    (("differ", V, "t 1 2 choose", "t 1 3 choose"), [False]), (("differ", V, "t 1 2 choose", "t 1 3 choose"), {False: 1}),
    (("differ", V, "t 1 2 choose", "t 1 3 choose"), False), (("differ", V, "t", "t t"), []), (("differ", V, "t", "t t"), None),
    (("differ", V, "t 1 2 choose", "h 1 2 choose (ab-b)"), (True, True)),
    (("differ", V, "t 1 2 choose", "h 1 2 choose (ab-b)"), (False, False)),
    (("differ", V, "t 1 2 choose", "h 1 2 choose (ab-b)"), (True,)),
    # They are not first-order.
    (("differ", V, "[ t ]", "[ t t ]"), ()), (("differ", V, "[ t ]", "[ t t ]"), "effects"), (("differ", V, "call", "call t"), ()),
    (("differ", V, "[ 1 ] curry", "[ 2 ] curry"), ()), (("differ", V, "call", "(a-)"), ()), (("differ", V, "t", "(a-a) call"), ()),
)


class HoldsTest(unittest.TestCase):
    def assert_holds(self, expected, claim, paper):
        with self.subTest(claim=claim, paper=paper):
            self.assertIs(holds(claim, paper), expected)

    def test_right_claims(self):
        for claim, paper in RIGHT:
            self.assert_holds(True, claim, paper)
            self.assertIs(holds(paper=paper, claim=claim), True)

    def test_wrong_claims_and_papers(self):
        for claim, paper in WRONG:
            self.assert_holds(False, claim, paper)

    def test_texts_of_effects_have_no_limit_here(self):
        self.assert_holds(True, ("effect", V, TEXT_2001, EFFECT_2001), ())
        self.assert_holds(False, ("effect", V, TEXT_2001, EFFECT_2001[:-2]), ())

    def test_other_parts(self):
        other = Vocabulary(("f", 2, 1), ("g", 1, 2), ("h", 0, 1), ("t", 1, 2))
        values = [
            *make_odd_values(), WORDS, Program(WORDS, "t"), "", " ", "t", "effect", "none", "agree", "differ", "Effect", "effects",
            "u", "(a-b)", "[", TOO_LARGE, TOO_DEEP, "t ", " t", "s0 -> s0", "s0 * -> s0 *", V, f"{V} ", f"{V}, ",
            V.replace(", ", ","), str(other), "t 1 1, f 2 1, g 1 2, h 0 1", "t 1 1, t 1 1", "T 1 1", 1, 0, 10 ** 19, "1 call",
        ]
        for claim, paper in RIGHT:
            for place in range(4):
                for value in values:
                    changed = (*claim[:place], value, *claim[place + 1:])
                    if type(value) is type(claim[place]) and value == claim[place] or (changed, paper) in RIGHT:
                        continue
                    with self.subTest(changed=changed, paper=paper):
                        found = holds(changed, paper)
                        self.assertIs(found, self.is_true(changed, paper))

    def is_true(self, claim, paper):
        """Tell whether a claim, of which one part was replaced, is true after all; most are not."""
        kind, vocabulary, text, told = claim
        try:
            words = Vocabulary.read(vocabulary)
            program = Program(words, text)
            if kind == "effect":
                return isinstance(told, str) and paper == () and reference.effect(words, text) == told
            if kind == "none":
                return type(told) is int and paper == () and reference.first_without_effect(words, text) == told
            other = Program(words, told)
            if kind == "agree":
                return paper == () and agree(program, other)
            if kind != "differ" or paper == "effects":
                return kind == "differ" and not fit(program, other)
            if not fit(program, other) or not is_first_order(program) or not is_first_order(other):
                return False
            names = tuple(reference.input_names(reference.common(words, text, told)))
            path = reference.Path(words, paper)
            stacks = [path.run(reference.read(row), names) for row in (text, told)]
            return len(path.answers) == len(paper) and stacks[0] != stacks[1]
        except (ValueError, TypeError, ArithmeticError):
            return False

    def test_indexes_that_are_no_integers(self):
        self.assert_holds(True, ("none", V, "1 call", 1), ())
        self.assert_holds(False, ("none", V, "1 call", True), ())
        self.assert_holds(True, ("none", V, "[ 1 call ]", 0), ())
        self.assert_holds(False, ("none", V, "[ 1 call ]", False), ())

    def test_texts_of_programs(self):
        for text in ("t ", " t", "t  t", "(-) t ", TOO_LARGE, TOO_DEEP, "u", None, ["t"]):
            self.assert_holds(False, ("effect", V, text, "s0 * -> s0 *"), ())
            self.assert_holds(False, ("agree", V, text, "t"), ())
            self.assert_holds(False, ("agree", V, "t", text), ())
            self.assert_holds(False, ("none", V, text, 0), ())
            for paper in ((), "effects"):
                self.assert_holds(False, ("differ", V, text, "h"), paper)
                self.assert_holds(False, ("differ", V, "h", text), paper)
        self.assert_holds(False, ("effect", V, TOO_LARGE, "s0 -> s0"), ())
        self.assert_holds(False, ("agree", V, TOO_LARGE, ""), ())
        self.assert_holds(False, ("agree", V, TOO_DEEP, TOO_DEEP), ())
        self.assert_holds(False, ("none", V, "1 call " + TOO_LARGE, 1), ())

    def test_tuples_of_other_lengths(self):
        for claim, paper in RIGHT:
            for changed in ((), claim[:3], claim[:1], claim[1:], (*claim, ()), (*claim, claim[3]), (claim,), (claim, paper)):
                self.assert_holds(False, changed, paper)

    def test_lists(self):
        for claim, paper in RIGHT:
            self.assert_holds(False, list(claim), paper)
            self.assert_holds(False, claim, list(paper))
            self.assert_holds(False, list(claim), list(paper))
            for place in range(4):
                self.assert_holds(False, (*claim[:place], [claim[place]], *claim[place + 1:]), paper)

    def test_other_values(self):
        for value in ["", "effect", V, *make_odd_values()]:
            self.assert_holds(False, value, ())
            self.assert_holds(False, value, value)
            for claim, paper in RIGHT:
                if value == () and isinstance(value, tuple) and paper == ():
                    continue
                self.assert_holds(False, claim, value)

    def test_papers_that_are_not_empty(self):
        for claim, paper in RIGHT:
            if claim[0] != "differ":
                for value in ((True,), (False,), ((),), (None,), "effects", "", None, [], 0, False):
                    self.assert_holds(False, claim, value)

    def test_all_answers(self):
        """Of all answers, exactly those of the cases that differ are accepted."""
        source = random.Random(60)
        found = {True: 0, False: 0}
        for attempt in range(1000):
            row = generating.make_row_with_effect(source, source.randint(0, 8))
            texts = " ".join(row), " ".join(generating.change_row(source, row))
            pair = [Program(generating.WORDS, text) for text in texts]
            if not all(is_first_order(program) for program in pair) or not fit(*pair):
                continue
            names = tuple(reference.input_names(reference.common(generating.WORDS, *texts)))
            rows = [(text, names) for text in texts]
            for tests, answers, (left, other_left) in reference.paths(generating.WORDS, rows, 20):
                expected = left != other_left
                found[expected] += 1
                claim = ("differ", str(generating.WORDS), *texts)
                self.assert_holds(expected, claim, tuple(answers))
                self.assert_holds(False, claim, (*answers, True))
                if answers:
                    self.assert_holds(False, claim, tuple(answers[:-1]))
        self.assertGreater(min(found.values()), 30)

    def test_a_claim_and_its_opposite(self):
        source = random.Random(61)
        for attempt in range(200):
            row = generating.make_row(source, source.randint(1, 5))
            text, other = " ".join(row), " ".join(generating.change_row(source, row))
            pair = [Program(generating.WORDS, text), Program(generating.WORDS, other)]
            words = str(generating.WORDS)
            with self.subTest(text=text, other=other):
                try:
                    expected = agree(*pair)
                except (NoEffect, HigherOrder):
                    expected = False
                self.assertIs(holds(("agree", words, text, other), ()), expected)
                try:
                    difference = first_difference(*pair)
                except (NoEffect, HigherOrder, TooManyCases):
                    continue
                self.assertIs(holds(("differ", words, text, other), "effects"), difference == ())


class InterfaceTest(unittest.TestCase):
    def test_holds_is_defined_in_its_file(self):
        self.assertEqual(holds.__module__, "stackquotes.checker")


if __name__ == "__main__":
    unittest.main()
