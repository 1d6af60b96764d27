import unittest

from stackquotes.console import Console
from stackquotes.errors import InvalidRow, NotAVocabulary
from stackquotes.programs import Program
from stackquotes.samples import sample_vocabulary
from stackquotes.vocabularies import Vocabulary
from tests.long_effects import EFFECT_2000, ENDLESS, TEXT_2000, TEXT_2001
from tests.samples_of_values import make_odd_values

WORDS = sample_vocabulary()
TOO_LARGE = " ".join(["t"] * 61)
TOO_DEEP = "[ [ [ [ [ [ [ ] ] ] ] ] ] ]"

NO_ROWS = (
    "", " ", "x", "dup", "Define a t", "DEFINE a t", " define a t", "define", "define ", "define  ", "define  a t", "define\ta t",
    "define\na", "defines a t", "change", "change ", "change  a t", "drop", "drop ", "drop  ", "drop  a", "drop a ", "drop a t",
    "drop a  ", " drop a", "undo ", " undo", "Undo", "undo x", "undo undo", "undone", "effect", "Effect t", "effects t", " effect t",
    "effect\tt", "same", "same ", "same  ", "same t", "same t ;", "same t;t", "same ; t", "same ;", "same t ; t ; t", "same t  ; t",
    "same t ;  t", "same  t ; t", "same t ; t ", "same t, t", "sames t ; t", "text_of a", "names", "users a", "trial", "expand t",
    "define\u00a0a t", "quit", "help",
    # A PROGRAM that `expand` does not accept.
    "effect unknown", "effect t ", "effect  t", "effect  ", "effect [", "effect 01", "effect a b c", f"effect {TOO_LARGE}",
    f"effect {TOO_DEEP}", "same unknown ; t", "same t ; unknown", f"same {TOO_LARGE} ; t", f"same t ; {TOO_LARGE}",
    f"same {TOO_DEEP} ; t", f"same t ; {TOO_DEEP}", "same 1 call ; unknown", "effect ;", "same ; ; ;",
)


class ConsoleCase(unittest.TestCase):
    def setUp(self):
        self.console = Console(WORDS)

    def assert_answers(self, *pairs):
        for row, answer in pairs:
            with self.subTest(row=row):
                self.assertEqual(self.console.say(row), answer)


class ChangesTest(ConsoleCase):
    def test_define(self):
        self.assert_answers(
            ("define dup (a-aa)", "ok"), ("effect dup", "s0 a0 -> s0 a0 a0"), ("define twice dup compose call", "ok"),
            ("effect [ t ] twice", "s0 * -> s0 *"), ("define dup (a-aa)", "refused"), ("define q [ dup ]", "ok"),
        )

    def test_an_empty_program(self):
        self.assert_answers(
            ("define a", "ok"), ("define b ", "ok"), ("define c  ", "refused"), ("effect a", "s0 -> s0"), ("effect b a", "s0 -> s0"),
            ("change a", "ok"), ("change a ", "ok"), ("change a  ", "refused"), ("change a (-)", "ok"),
            ("define d  t", "refused"), ("define d t ", "refused"), ("define d t  t", "refused"),
        )

    def test_refused_definitions(self):
        many = [(f"define {chr(97 + number) * 2} t", "ok") for number in range(20)]
        self.assert_answers(
            ("define A t", "refused"), ("define t t", "refused"), ("define call t", "refused"), ("define abcdefghi t", "refused"),
            ("define 1 t", "refused"), ("define ; t", "refused"), ("define [ t", "refused"), ("define a\nb t", "refused"),
            ("define a\tb t", "refused"), ("define \u00e9 t", "refused"), ("define a unknown", "refused"), ("define a a", "refused"),
            ("define a [", "refused"), ("define a 1 call", "refused"), (f"define a {TOO_LARGE}", "refused"),
            (f"define a {TOO_DEEP}", "refused"), ("define a t ; t", "refused"), ("undo", "refused"), *many, ("define zz t", "refused"),
            ("change zz t", "refused"), ("undo", "ok"), ("define zz t", "ok"),
        )

    def test_change(self):
        self.assert_answers(
            ("define a t", "ok"), ("define b a", "ok"), ("change a (-) t", "ok"), ("change a t t", "refused"),
            ("change c t", "refused"), ("change a b", "refused"), ("change a 1 call", "refused"), ("change T t", "refused"),
            ("change a", "refused"), ("change b t", "ok"), ("drop a", "ok"), ("effect b", "s0 * -> s0 *"),
        )

    def test_drop(self):
        self.assert_answers(
            ("define a t", "ok"), ("define b a", "ok"), ("drop a", "refused"), ("drop c", "refused"), ("drop T", "refused"),
            ("drop a\t", "refused"), ("drop ;", "refused"), ("drop b", "ok"), ("drop a", "ok"), ("drop a", "refused"),
        )

    def test_undo(self):
        self.assert_answers(
            ("undo", "refused"), ("define a t", "ok"), ("change a t", "ok"), ("drop a", "ok"), ("undo", "ok"),
            ("effect a", "s0 * -> s0 *"), ("undo", "ok"), ("undo", "ok"), ("undo", "refused"),
        )
        self.assertRaises(InvalidRow, self.console.say, "effect a")

    def test_names_like_the_words_of_rows(self):
        self.assert_answers(
            ("define define t", "ok"), ("define undo t", "ok"), ("define effect define undo", "ok"), ("define same same", "refused"),
            ("effect effect define", "s0 * -> s0 *"), ("same define ; undo", "same"), ("drop define", "refused"), ("drop effect", "ok"),
            ("drop undo", "ok"), ("drop define", "ok"), ("undo", "ok"),
        )


class EffectTest(ConsoleCase):
    def test_effects(self):
        self.assert_answers(
            ("effect ", "s0 -> s0"), ("effect t", "s0 * -> s0 *"), ("effect call", "s0 [s0 -> s1] -> s1"),
            ("effect [ ]", "s0 -> s0 [s1 -> s1]"), ("effect [ t ] (ab-ba) call", "s0 [s0 [s1 * -> s1 *] -> s2] -> s2"),
        )

    def test_no_effect(self):
        self.assert_answers(
            ("define dup (a-aa)", "ok"), ("define three 1 2 3", "ok"), ("define nop", "ok"), ("effect dup call", "none 1"),
            ("effect three call", "none 3"), ("effect nop nop 1 call", "none 1"), ("effect [ dup call ]", "none 0"),
        )

    def test_long_effects(self):
        self.assert_answers(
            (f"effect {TEXT_2000}", EFFECT_2000), (f"effect {TEXT_2001}", "long"), (f"effect {ENDLESS}", "long"),
            (f"define a {TEXT_2001}", "ok"), ("effect a", "long"), ("effect a call 1 call", "none 28"),
        )

    def test_the_size_of_the_expansion_counts(self):
        self.assert_answers(
            ("define nop", "ok"), ("define big " + " ".join(["t"] * 30), "ok"), ("effect big big", "s0 * -> s0 *"),
            ("effect " + " ".join(["nop"] * 100), "s0 -> s0"),
        )
        for row in ("effect big big t", "same big big t ; t", "same t ; big t big"):
            self.assertRaises(InvalidRow, self.console.say, row)


class SameTest(ConsoleCase):
    def test_same_and_different(self):
        self.assert_answers(
            ("define dup (a-aa)", "ok"), ("same dup (a-) ; ", "same"), ("same t ; t", "same"), ("same t ; t t", "different"),
            ("same t ; f", "different"), ("same t 1 2 choose ; t 1 3 choose", "different"), ("same dup ; (b-bb)", "same"),
            ("same [ t ] compose ; [ call t ] curry", "same"), ("same [ dup ] ; [ dup dup (a-) ]", "same"),
        )

    def test_empty_programs(self):
        self.assert_answers(
            ("same  ; ", "same"), ("same  ; t", "different"), ("same t ; ", "different"), ("same  ; (-)", "same"),
            ("same (ab-ba) (ab-ba) ; ", "same"),
        )

    def test_no_effect(self):
        self.assert_answers(
            ("same 1 call ; t", "none"), ("same t ; 1 call", "none"), ("same 1 call ; 1 call", "none"), ("same  ; 1 call", "none"),
            ("same [ t ] (ab-ba) call ; 1 call", "none"),
        )

    def test_higher_order(self):
        self.assert_answers(
            ("same [ t ] (ab-ba) call ; [ t ] (ab-ba) call", "open"), ("same call ; (ab-a) call", "open"),
            ("same [ t ] (ab-ba) call ; 1", "different"),
        )


class RowsTest(ConsoleCase):
    def test_other_rows(self):
        self.assert_answers(("define a t", "ok"), ("define b a", "ok"))
        for row in [*NO_ROWS, *make_odd_values(), ["undo"], ("undo",), b"undo", Program(WORDS, "t")]:
            with self.subTest(row=row):
                with self.assertRaises(InvalidRow) as caught:
                    self.console.say(row)
                self.assertIs(caught.exception.value, row)
        # Nothing was changed.
        self.assert_answers(
            ("effect a b", "s0 * -> s0 *"), ("undo", "ok"), ("undo", "ok"), ("undo", "refused"),
        )

    def test_two_consoles_in_turn(self):
        other = Console(Vocabulary(("a", 0, 1)))
        self.assertEqual(self.console.say("define a t"), "ok")
        self.assertEqual(other.say("define a a"), "refused")
        self.assertEqual(other.say("define t a a"), "ok")
        self.assertEqual((self.console.say("effect a"), other.say("effect a")), ("s0 * -> s0 *", "s0 -> s0 *"))
        self.assertEqual((self.console.say("undo"), self.console.say("undo")), ("ok", "refused"))
        self.assertEqual((other.say("effect t"), other.say("undo")), ("s0 -> s0 * *", "ok"))

    def test_no_vocabularies(self):
        for value in ["", "f 2 1", Program(WORDS, "t"), *make_odd_values()]:
            if isinstance(value, Vocabulary):
                continue
            with self.subTest(value=value):
                with self.assertRaises(NotAVocabulary) as caught:
                    Console(value)
                self.assertIs(caught.exception.value, value)

    def test_by_keyword(self):
        self.assertEqual(Console(vocabulary=WORDS).say(row="undo"), "refused")

    def test_equality_and_truth(self):
        other = Console(WORDS)
        self.assertTrue(self.console == self.console and self.console != other and not self.console == other)
        self.assertTrue(self.console)


class InterfaceTest(unittest.TestCase):
    def test_the_class_is_defined_in_its_file(self):
        self.assertEqual(Console.__module__, "stackquotes.console")
        self.assertIn("say", vars(Console))


if __name__ == "__main__":
    unittest.main()
