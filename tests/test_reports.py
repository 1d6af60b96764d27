import unittest

from stackquotes.cases import cases
from stackquotes.errors import HigherOrder, NoEffect, NotALibrary, NotAProgram, TooLong, TooManyCases
from stackquotes.libraries import Library
from stackquotes.programs import Program
from stackquotes.reports import case_table, word_table
from stackquotes.samples import sample_program, sample_vocabulary
from tests.long_effects import EFFECT_2000, ENDLESS, TEXT_2000, TEXT_2001
from tests.samples_of_values import make_odd_values
from tests.test_cases import SIXTY_FIVE, SIXTY_FOUR, TEST, grow

WORDS = sample_vocabulary()


def make(text):
    return Program(WORDS, text)


class CaseTableTest(unittest.TestCase):
    def test_lines(self):
        for text, lines in {
            "": ["always:"],
            "(a-)": ["always:"],
            "1": ["always: 1"],
            "(ab-ba) 3 f": ["always: x0 f(x1,3)"],
            "g": ["always: g.0(x0) g.1(x0)"],
            sample_program().text: ["if t(x0): f(x1,x0)", "unless t(x0): x0"],
            TEST: ["if x0:", "unless x0:"],
            "[ 1 2 choose ] dip [ 3 ] [ h 4 5 choose ] choose call": [
                "if x1, if x0: 1 3", "if x1, unless x0, if h(): 1 4", "if x1, unless x0, unless h(): 1 5",
                "unless x1, if x0: 2 3", "unless x1, unless x0, if h(): 2 4", "unless x1, unless x0, unless h(): 2 5",
            ],
        }.items():
            with self.subTest(text=text):
                self.assertEqual(case_table(make(text)), "\n".join(lines))

    def test_many_lines(self):
        lines = case_table(make(SIXTY_FOUR)).split("\n")
        self.assertEqual(len(lines), 64)
        self.assertEqual((lines[0], lines[63]), (
            "if x0, if x1, if x2, if x3, if x4, if x5:", "unless x0, unless x1, unless x2, unless x3, unless x4, unless x5:",
        ))

    def test_length(self):
        text = case_table(make(grow(2000)))
        self.assertEqual(len(text), 2000 + len("always: "))
        self.assertEqual(text, "always: " + cases(make(grow(2000)))[0][1][0])

    def test_errors(self):
        for value in ["", "t", WORDS, Library(WORDS), *make_odd_values()]:
            with self.subTest(value=value):
                with self.assertRaises(NotAProgram) as caught:
                    case_table(value)
                self.assertIs(caught.exception.value, value)
        with self.assertRaises(NoEffect) as caught:
            case_table(make("call 1 call"))
        self.assertEqual(caught.exception.index, 2)
        for text in ("call", "[ ]", f"{SIXTY_FOUR} {TEST} [ ]"):
            self.assertRaises(HigherOrder, case_table, make(text))
        for text in (SIXTY_FIVE, "t" + " (a-aa) f" * 12 + f" {SIXTY_FOUR} {TEST}"):
            with self.assertRaises(TooManyCases) as caught:
                case_table(make(text))
            self.assertEqual(caught.exception.limit, 64)
        with self.assertRaises(TooLong) as caught:
            case_table(make(grow(2001)))
        self.assertEqual(caught.exception.limit, 2000)

    def test_by_keyword(self):
        self.assertEqual(case_table(program=make("1")), "always: 1")


class WordTableTest(unittest.TestCase):
    def test_lines(self):
        library = Library(WORDS)
        self.assertEqual(word_table(library), "")
        library.define("zap", "t")
        self.assertEqual(word_table(library), "zap: s0 * -> s0 *")
        library.define("dup", "(a-aa)")
        library.define("twice", "dup compose call")
        self.assertEqual(word_table(library), "zap: s0 * -> s0 *\ndup: s0 a0 -> s0 a0 a0\ntwice: s0 [s0 -> s0] -> s0")

    def test_after_changes(self):
        library = Library(WORDS)
        library.change_all(("define", "a", "(a-aa)"), ("define", "b", "t"), ("define", "c", "[ a ]"))
        library.drop("b")
        library.change("a", "[ (a-aa) ] call")
        self.assertEqual(word_table(library), "a: s0 a0 -> s0 a0 a0\nc: s0 -> s0 [s1 a0 -> s1 a0 a0]")
        library.define("b", "h")
        self.assertEqual(word_table(library).split("\n")[2], "b: s0 -> s0 *")
        for time in range(3):
            library.undo()
        self.assertEqual(word_table(library).split("\n")[1], "b: s0 * -> s0 *")

    def test_during_several_changes(self):
        library, seen = Library(WORDS), []
        library.change_all(("define", "a", "t"), ("drop", "a"), watch=lambda watched, place: seen.append(word_table(watched)))
        self.assertEqual(seen, ["a: s0 * -> s0 *", ""])

    def test_length(self):
        library = Library(WORDS)
        library.define("long", TEXT_2000)
        self.assertEqual(word_table(library), f"long: {EFFECT_2000}")
        for text in (TEXT_2001, ENDLESS):
            library.define("longer", text)
            with self.assertRaises(TooLong) as caught:
                word_table(library)
            self.assertEqual(caught.exception.limit, 2000)
            library.undo()

    def test_no_libraries(self):
        for value in ["", WORDS, make("t"), *make_odd_values()]:
            with self.subTest(value=value):
                with self.assertRaises(NotALibrary) as caught:
                    word_table(value)
                self.assertIs(caught.exception.value, value)

    def test_by_keyword(self):
        self.assertEqual(word_table(library=Library(WORDS)), "")


class InterfaceTest(unittest.TestCase):
    def test_functions_are_defined_in_their_file(self):
        for function in (case_table, word_table):
            self.assertEqual(function.__module__, "stackquotes.reports")


if __name__ == "__main__":
    unittest.main()
