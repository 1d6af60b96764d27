import itertools
import random
import unittest

from stackquotes.comparing import agree
from stackquotes.errors import HigherOrder, InvalidWords, NoEffect, NotAProgram, TooLarge
from stackquotes.programs import Program
from stackquotes.samples import sample_vocabulary
from stackquotes.searching import shortest
from stackquotes.vocabularies import Vocabulary
from tests import generating
from tests.samples_of_values import make_odd_values

WORDS = sample_vocabulary()
NO_PROGRAMS = ["", "t", WORDS, *make_odd_values()]
LARGE = "[ " + " ".join(["(-)"] * 59) + " ]"


def make(text):
    return Program(WORDS, text)


def search(program, words):
    """Try all rows of places, in their order."""
    for length in range(5):
        for row in itertools.product(words, repeat=length):
            try:
                candidate = Program(program.vocabulary, " ".join(row))
                if agree(program, candidate):
                    return candidate
            except (TooLarge, NoEffect, HigherOrder):
                pass
    return None


class ShortestTest(unittest.TestCase):
    def assert_shortest(self, goal, words, expected):
        with self.subTest(goal=goal, words=words):
            found = shortest(make(goal), words)
            self.assertEqual(found, None if expected is None else make(expected))

    def test_the_shortest_program(self):
        self.assert_shortest("t", ("t",), "t")
        self.assert_shortest("t t t t", ("t",), "t t t t")
        self.assert_shortest("t (a-a) t", ("f", "t"), "t t")
        self.assert_shortest("(abc-cab)", ("(ab-ba)", "[ (ab-ba) ]", "dip"), "(ab-ba) [ (ab-ba) ] dip")
        self.assert_shortest("[ t ] call [ t ] call", ("t", "[ t ]", "call"), "t t")
        self.assert_shortest("1 1 f", ("(a-aa)", "1", "f"), "1 (a-aa) f")
        self.assert_shortest("[ t ] compose", ("[ t ]", "compose", "[ call t ]", "curry"), "[ t ] compose")
        self.assert_shortest("[ t ] compose", ("curry", "[ call t ]"), "[ call t ] curry")
        self.assert_shortest("(a-) 1 [ ] curry", ("[ 1 ]", "(a-)"), "(a-) [ 1 ]")

    def test_the_empty_program(self):
        self.assert_shortest("", ("t",), "")
        self.assert_shortest("(ab-ba) (ab-ba)", ("(ab-ba)",), "")
        self.assert_shortest("h (a-)", ("(-)",), "")
        self.assertEqual(len(shortest(make("(-)"), ("(-)",))), 0)

    def test_the_least_row_of_places(self):
        self.assert_shortest("(a-aa)", ("(a-aa)", "(b-bb)"), "(a-aa)")
        self.assert_shortest("(a-aa)", ("(b-bb)", "(a-aa)"), "(b-bb)")
        self.assert_shortest("1 2", ("2", "1"), "1 2")
        self.assert_shortest("[ t ] dip t", ("t", "[ t ]", "dip"), "t [ t ] dip")
        self.assert_shortest("[ t ] dip t", ("[ t ]", "dip", "t"), "[ t ] dip t")
        self.assert_shortest("h (a-aa)", ("(a-aa)", "h"), "h (a-aa)")
        self.assert_shortest("h h", ("(a-aa)", "h"), "h (a-aa)")
        self.assert_shortest("h h", ("h", "(a-aa)"), "h h")

    def test_words_that_are_repeated(self):
        self.assert_shortest("t t", ("t", "t"), "t t")
        self.assert_shortest("t f", ("f", "t", "f", "t", "t"), "t f")

    def test_none(self):
        self.assert_shortest("(abc-cab)", ("(ab-ba)",), None)
        self.assert_shortest("t t t t t", ("t",), None)
        self.assert_shortest("1", ("2", "t", "h", "f", "g"), None)
        self.assert_shortest("t", ("(a-)",), None)

    def test_candidates_that_are_passed_over(self):
        # Too large.
        self.assert_shortest("t", (LARGE, "t"), "t")
        self.assert_shortest("(a-a) [ ]", (LARGE, "(a-a)"), LARGE)
        self.assert_shortest("1 2 3 [ ]", (LARGE, "1", "2", "3", "[ (-) (-) ]"), "1 2 3 [ (-) (-) ]")
        self.assert_shortest("[ ] [ ]", (LARGE,), None)
        # Without effect.
        self.assert_shortest("t", ("[ (a-aa) call ]", "t"), "t")
        self.assert_shortest("[ ] call 1", ("call", "1"), "1")
        self.assert_shortest("call", ("[ 1 call ]", "1", "call"), "call")
        # What could be compared is only the longer program.
        self.assertRaises(HigherOrder, agree, make("call (a-)"), make("(ab-a) call (a-)"))
        self.assert_shortest("(ab-a) call", ("call", "(ab-a)"), "(ab-a) call")

    def test_size_of_the_words(self):
        self.assert_shortest(LARGE, (LARGE,), LARGE)
        deep = "[ [ [ [ [ [ t ] ] ] ] ] ]"
        self.assert_shortest(deep, ("t", deep), deep)

    def test_order_two(self):
        self.assert_shortest("[ ] compose call", ("call", "[ ]"), "call")
        self.assert_shortest("(ab-ba) (ab-ba) curry", ("(ab-ba)", "curry"), "curry")
        self.assert_shortest("[ call ] (a-a)", ("[ call ]",), "[ call ]")

    def test_all_rows(self):
        source = random.Random(40)
        found = []
        for attempt in range(60):
            row = generating.make_row_with_effect(source, source.randint(0, 4))
            program = Program(generating.WORDS, " ".join(row))
            words = tuple(generating.make_word(source, 1) for place in range(source.randint(1, 2))) + tuple(row)[:3]
            words = tuple(source.sample(words, len(words)))
            with self.subTest(text=program.text, words=words):
                try:
                    found.append(shortest(program, words))
                except HigherOrder:
                    continue
                self.assertEqual(found[-1], search(program, words))
        self.assertGreater(len([program for program in found if program]), 15)

    def test_by_keyword_and_again(self):
        for time in range(2):
            self.assertEqual(shortest(words=("t",), program=make("(-) t")), make("t"))


class ErrorsTest(unittest.TestCase):
    def test_no_programs_and_no_effects(self):
        for value in NO_PROGRAMS:
            with self.subTest(value=value):
                with self.assertRaises(NotAProgram) as caught:
                    shortest(value, None)
                self.assertIs(caught.exception.value, value)
        for words in (None, ("t",), ("",)):
            with self.assertRaises(NoEffect) as caught:
                shortest(make("t [ ] t"), words)
            self.assertEqual(caught.exception.index, 2)

    def assert_invalid(self, words, index):
        for program in (make("t"), make("[ t ] (ab-ba) call")):
            with self.subTest(words=words):
                with self.assertRaises(InvalidWords) as caught:
                    shortest(program, words)
                self.assertEqual(caught.exception.index, index)
                self.assertIs(type(caught.exception.index), type(index))

    def test_words(self):
        for value in [value for value in make_odd_values() if not isinstance(value, tuple)]:
            self.assert_invalid(value, None)
        for value in ((), ("t",) * 6, (1,) * 6, "t", ["t"], {"t": 1}):
            self.assert_invalid(value, None)
        too_large, too_deep = "[ " + " ".join(["(-)"] * 60) + " ]", "[ [ [ [ [ [ [ ] ] ] ] ] ] ]"
        for value in [
            "", " ", "t t", "t ", " t", "u", "[ t", "[ ] [ ]", "[ u ]", "01", "(a-b)", too_large, too_deep, make("t"),
            *make_odd_values(),
        ]:
            self.assert_invalid((value,), 0)
            self.assert_invalid(("t", "[ t ]", value, "", None), 2)
        # A word of another vocabulary.
        self.assertRaises(InvalidWords, shortest, Program(Vocabulary(("k", 1, 1)), "k"), ("t",))

    def test_higher_order(self):
        for text in ("[ t ] (ab-ba) call", "[ [ t ] (ab-ba) call ]", "(-) [ t ] (ab-ba) call"):
            self.assertRaises(HigherOrder, shortest, make(text), ("t",))


class InterfaceTest(unittest.TestCase):
    def test_shortest_is_defined_in_its_file(self):
        self.assertEqual(shortest.__module__, "stackquotes.searching")


if __name__ == "__main__":
    unittest.main()
