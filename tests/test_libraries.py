import random
import unittest

from stackquotes.comparing import agree
from stackquotes.effects import effect
from stackquotes.errors import (
    Busy, InvalidDeeds, InvalidName, InvalidText, NameMissing, NameTaken, NameUsed, NoEffect, NotALibrary, NotAVocabulary,
    NotEquivalent, NothingToUndo, TooDeep, TooLarge, TooManyDefinitions,
)
from stackquotes.libraries import Library, attempt
from stackquotes.programs import Program
from stackquotes.samples import sample_vocabulary
from stackquotes.vocabularies import Vocabulary
from tests.samples_of_values import make_odd_values

WORDS = sample_vocabulary()
CORE_WORDS = ("call", "dip", "curry", "compose", "choose")
NO_NAMES = ["", " ", "Dup", "dup2", "abcdefghi", "a b", "dup ", "\u00e9", "1", "(a-a)", "[", "a-b", *make_odd_values()]
WRONG_TEXTS = [
    " ", "t ", " t", "t  t", "[", "]", "[ t", "[t]", "nop ", " nop", "nop  nop", "[ nop", "unknown", "dup2", "01", "(a-b)",
    "nop\n", "dup,", *make_odd_values(),
]


def make(text):
    return Program(WORDS, text)


def state(library):
    """Return all that can be seen of a library, apart from the changes that can be reversed."""
    names = library.names
    return (
        names, [library.text_of(name) for name in names], [library.users(name) for name in names],
        [library.expand(name).text for name in names], len(library), repr(library), library.busy,
    )


def history(library):
    """Return all states that `undo` leads to."""
    states = [state(library)]
    with library.trial():
        while True:
            try:
                library.undo()
            except NothingToUndo:
                return states
            states.append(state(library))


def filled(*definitions):
    library = Library(WORDS)
    for name, text in definitions:
        library.define(name, text)
    return library


class LibraryCase(unittest.TestCase):
    def assert_refused(self, library, error, function, *arguments, **told):
        """Check that a call raises an error with these attributes, and leaves the library as it was."""
        before = history(library)
        with self.assertRaises(error) as caught:
            function(*arguments)
        self.assertIs(type(caught.exception), error)
        for name, value in told.items():
            self.assertEqual(getattr(caught.exception, name), value)
            self.assertIs(type(getattr(caught.exception, name)), type(value))
        self.assertEqual(history(library), before)


class MadeLibraryTest(LibraryCase):
    def test_an_empty_library(self):
        library = Library(WORDS)
        self.assertEqual((library.names, len(library), repr(library), library.busy), ((), 0, "Library(0 definitions)", False))
        self.assertIs(library.vocabulary, WORDS)
        self.assertIs(bool(library), False)

    def test_properties(self):
        library = filled(("dup", "(a-aa)"))
        self.assertEqual((library.names, len(library), repr(library)), (("dup",), 1, "Library(1 definitions)"))
        self.assertIs(bool(library), True)
        library.define("twice", "dup compose call")
        self.assertEqual((library.names, len(library), repr(library)), (("dup", "twice"), 2, "Library(2 definitions)"))
        self.assertIs(type(library.names), tuple)
        self.assertEqual(library.text_of("twice"), "dup compose call")

    def test_equality(self):
        one, other = Library(WORDS), Library(WORDS)
        self.assertTrue(one == one and not one != one)
        for value in [other, WORDS, *make_odd_values()]:
            self.assertTrue(one != value and not one == value)

    def test_no_vocabularies(self):
        for value in ["", "f 2 1", make("t"), *make_odd_values()]:
            if isinstance(value, Vocabulary):
                continue
            with self.subTest(value=value):
                with self.assertRaises(NotAVocabulary) as caught:
                    Library(value)
                self.assertIs(caught.exception.value, value)

    def test_by_keyword(self):
        library = Library(vocabulary=WORDS)
        library.define(text="(a-aa)", name="dup")
        library.change(text="(b-bb)", name="dup")
        self.assertEqual(library.expand(text="dup").text, "(b-bb)")
        self.assertEqual((library.text_of(name="dup"), library.users(name="dup")), ("(b-bb)", ()))
        self.assertEqual(attempt(act=len, library=library), 1)
        library.drop(name="dup")
        self.assertEqual(library.names, ())

    def test_names_of_other_libraries(self):
        one, other = Library(WORDS), Library(Vocabulary(("dup", 1, 2)))
        one.define("dup", "(a-aa)")
        other.define("t", "dup (ab-a)")
        self.assertEqual(one.expand("dup t").text, "(a-aa) t")
        self.assertEqual(other.expand("dup t").text, "dup dup (ab-a)")
        self.assertRaises(InvalidName, other.define, "dup", "")
        self.assertRaises(InvalidName, one.define, "t", "")
        one.undo()
        self.assertEqual((one.names, other.names), ((), ("t",)))


class ExpandTest(LibraryCase):
    def setUp(self):
        self.library = filled(
            ("nop", ""), ("dup", "(a-aa)"), ("twice", "dup compose call"), ("quoted", "[ dup nop [ nop ] ]"), ("five", "5"),
        )

    def test_expansions(self):
        for text, expected in (
            ("", ""), ("t", "t"), ("nop", ""), ("nop nop", ""), ("[ nop ]", "[ ]"), ("t nop t", "t t"), ("dup", "(a-aa)"),
            ("[ t ] twice", "[ t ] (a-aa) compose call"), ("quoted", "[ (a-aa) [ ] ]"), ("[ quoted ]", "[ [ (a-aa) [ ] ] ]"),
            ("[ [ nop ] nop ] nop", "[ [ ] ]"), ("five five f", "5 5 f"), ("(a-aa) dup", "(a-aa) (a-aa)"),
        ):
            with self.subTest(text=text):
                program = self.library.expand(text)
                self.assertEqual(program, make(expected))
                self.assertEqual(program.text, expected)

    def test_texts_need_no_effect(self):
        self.assertEqual(self.library.expand("five call").text, "5 call")

    def test_wrong_texts(self):
        for value in WRONG_TEXTS:
            with self.subTest(value=value):
                with self.assertRaises(InvalidText) as caught:
                    self.library.expand(value)
                self.assertIs(caught.exception.value, value)

    def test_limits_hold_for_the_expansion(self):
        library, three = self.library, " ".join(["twice"] * 20)
        self.assertEqual(library.expand(three).size, 60)
        self.assert_refused(library, TooLarge, library.expand, three + " t", limit=60)
        self.assert_refused(library, TooLarge, library.expand, " ".join(["t"] * 61), limit=60)
        # The text itself may be larger and deeper than its expansion.
        self.assertEqual(library.expand(" ".join(["nop"] * 500)).text, "")
        self.assertEqual(library.expand(" ".join(["t"] * 60 + ["nop"] * 60)).size, 60)
        self.assertEqual(library.expand("[ [ [ [ quoted ] ] ] ]").text, "[ [ [ [ [ (a-aa) [ ] ] ] ] ] ]")
        self.assert_refused(library, TooDeep, library.expand, "[ [ [ [ [ quoted ] ] ] ] ]", limit=6)
        self.assert_refused(library, TooDeep, library.expand, "[ [ [ [ [ [ [ ] ] ] ] ] ] ]", limit=6)
        self.assert_refused(library, TooLarge, library.expand, "[ [ [ [ [ quoted ] ] ] ] ] " + three, limit=60)
        self.assert_refused(library, TooDeep, library.expand, "[ " * 9 + "]" + " ]" * 8, limit=6)
        self.assert_refused(library, TooLarge, library.expand, "[ " * 600 + "]" + " ]" * 599, limit=60)

    def test_invalid_texts_come_before_limits(self):
        self.assert_refused(self.library, InvalidText, self.library.expand, " ".join(["t"] * 61 + ["unknown"]))
        self.assert_refused(self.library, InvalidText, self.library.expand, "[ [ [ [ [ [ [ ] ] ] ] ] ]")

    def test_expansions_follow_changes(self):
        self.library.change("dup", "(b-bb)")
        self.assertEqual(self.library.expand("quoted twice").text, "[ (b-bb) [ ] ] (b-bb) compose call")


class DefineTest(LibraryCase):
    def test_definitions(self):
        library = Library(WORDS)
        self.assertIsNone(library.define("dup", "(a-aa)"))
        self.assertIsNone(library.define("x", ""))
        self.assertIsNone(library.define("abcdefgh", "[ dup ] x [ [ dup ] ]"))
        self.assertEqual(library.names, ("dup", "x", "abcdefgh"))
        self.assertEqual([library.text_of(name) for name in library.names], ["(a-aa)", "", "[ dup ] x [ [ dup ] ]"])
        self.assertEqual([library.users(name) for name in library.names], [("abcdefgh",), ("abcdefgh",), ()])

    def test_wrong_names(self):
        library = filled(("dup", "(a-aa)"))
        for name in NO_NAMES + list(CORE_WORDS) + list(WORDS.names):
            with self.subTest(name=name):
                for text in ("", None, "1 call"):
                    with self.assertRaises(InvalidName) as caught:
                        library.define(name, text)
                    self.assertIs(caught.exception.value, name)
        self.assertEqual(library.names, ("dup",))

    def test_names_that_are_taken(self):
        library = filled(("dup", "(a-aa)"))
        for text in ("(a-aa)", "", None, "1 call"):
            self.assert_refused(library, NameTaken, library.define, "dup", text, value="dup")
        library.drop("dup")
        library.define("dup", "(b-bb)")
        self.assertEqual(library.text_of("dup"), "(b-bb)")

    def test_wrong_texts(self):
        library = filled(("nop", ""), ("big", " ".join(["(-)"] * 31)), ("deep", "[ [ [ [ ] ] ] ]"))
        for value in WRONG_TEXTS + ["new", "[ new ]"]:
            with self.subTest(value=value):
                self.assert_refused(library, InvalidText, library.define, "new", value)
                with self.assertRaises(InvalidText) as caught:
                    library.define("new", value)
                self.assertIs(caught.exception.value, value)
        for text in ("big big", " ".join(["t"] * 61), "[ [ [ deep ] ] ] big big", "1 call big big"):
            self.assert_refused(library, TooLarge, library.define, "new", text, limit=60)
        for text in ("[ [ [ deep ] ] ]", "1 call [ [ [ deep ] ] ]"):
            self.assert_refused(library, TooDeep, library.define, "new", text, limit=6)

    def test_no_effect(self):
        library = filled(("dup", "(a-aa)"), ("three", "1 2 3"), ("nop", ""))
        for text, index in (("dup call", 1), ("three call", 3), ("nop nop 1 call", 1), ("[ dup call ]", 0), ("t three [ 1 call ]", 4)):
            self.assert_refused(library, NoEffect, library.define, "new", text, index=index)

    def test_any_order_is_allowed(self):
        library = filled(("high", "[ t ] (ab-ba) call"))
        library.define("higher", "[ high ] (ab-ba) call")
        self.assertEqual(library.names, ("high", "higher"))

    def test_number_of_definitions(self):
        library = filled(*[(chr(97 + number) * 3, "t") for number in range(20)])
        self.assertEqual((len(library), repr(library)), (20, "Library(20 definitions)"))
        self.assert_refused(library, TooManyDefinitions, library.define, "new", "t", limit=20)
        self.assert_refused(library, InvalidName, library.define, "New", "t", value="New")
        self.assert_refused(library, NameTaken, library.define, "aaa", "t", value="aaa")
        self.assert_refused(library, InvalidText, library.define, "new", "[", value="[")
        self.assert_refused(library, TooLarge, library.define, "new", " ".join(["t"] * 61), limit=60)
        self.assert_refused(library, NoEffect, library.define, "new", "1 call", index=1)
        library.change("aaa", "[ t ] call")
        library.drop("bbb")
        library.define("new", "t")
        self.assertEqual(len(library), 20)


class ChangeTest(LibraryCase):
    def test_changes(self):
        library = filled(("dup", "(a-aa)"), ("twice", "dup compose call"))
        self.assertIsNone(library.change("twice", "(a-aa) compose call"))
        self.assertEqual((library.text_of("twice"), library.users("dup")), ("(a-aa) compose call", ()))
        self.assertIsNone(library.change("dup", "[ (a-aa) ] call"))
        self.assertIsNone(library.change("twice", "dup compose call"))
        self.assertEqual(library.names, ("dup", "twice"))
        self.assertEqual(library.expand("twice").text, "[ (a-aa) ] call compose call")

    def test_later_definitions_follow(self):
        library = filled(("a", "t"), ("b", "[ a ]"), ("c", "b call"), ("d", "h"))
        library.change("a", "(-) t")
        self.assertEqual([library.expand(name).text for name in library.names], ["(-) t", "[ (-) t ]", "[ (-) t ] call", "h"])
        self.assertEqual([library.text_of(name) for name in library.names], ["(-) t", "[ a ]", "b call", "h"])

    def test_names_that_are_missing(self):
        library = filled(("dup", "(a-aa)"))
        for name in NO_NAMES + list(CORE_WORDS) + list(WORDS.names) + ["other"]:
            with self.subTest(name=name):
                for text in ("", None):
                    with self.assertRaises(NameMissing) as caught:
                        library.change(name, text)
                    self.assertIs(caught.exception.value, name)
        self.assertEqual(history(library), history(filled(("dup", "(a-aa)"))))

    def test_wrong_texts(self):
        library = filled(("nop", ""), ("big", " ".join(["(-)"] * 31)), ("one", "(-)"), ("later", "(-)"))
        for value in WRONG_TEXTS + ["one", "[ one ] call", "later", "one later", "one " + " ".join(["t"] * 61)]:
            with self.subTest(value=value):
                self.assert_refused(library, InvalidText, library.change, "one", value)
        self.assert_refused(library, TooLarge, library.change, "one", "big big", limit=60)
        self.assert_refused(library, TooLarge, library.change, "one", "1 call " + " ".join(["t"] * 61), limit=60)
        self.assert_refused(library, TooDeep, library.change, "one", "[ [ [ [ [ [ [ ] ] ] ] ] ] ] (a-)", limit=6)
        self.assert_refused(library, NoEffect, library.change, "one", "nop 1 call", index=1)
        library.change("one", "nop big")

    def test_another_effect(self):
        library = filled(("one", "t"), ("two", "(a-a)"), ("three", "[ t ]"), ("four", "(ab-ab)"))
        for name, texts in {
            "one": ("", "h", "f", "(a-a) [ t ] dip", "[ t ]", "call", "[ t ] (ab-ba) call"),
            # These agree, but one of the effects is more general.
            "two": ("", "(ab-ab)", "t"),
            "three": ("[ h ]", "[ t ] (a-aa)", "[ [ t ] ]"),
            "four": ("(ab-ba)", "(abc-abc)", "(a-a)", ""),
        }.items():
            for text in texts:
                with self.subTest(name=name, text=text):
                    self.assert_refused(library, NotEquivalent, library.change, name, text, value=name)
        self.assertIs(agree(make("(a-a)"), make("")), True)

    def test_the_same_effect_that_does_something_else(self):
        library = filled(("one", "t"), ("two", "(ab-ba) f"), ("three", "[ t ]"), ("four", "[ t ] compose"))
        for name, text in (
            ("one", "t t"), ("one", "t (a-) h"), ("one", "t 1 2 choose"), ("two", "f"), ("three", "[ t t ]"),
            ("four", "[ t t ] compose"),
        ):
            with self.subTest(name=name, text=text):
                self.assertEqual(effect(make(text)), effect(library.expand(name)))
                self.assert_refused(library, NotEquivalent, library.change, name, text, value=name)

    def test_effects_are_compared_whatever_their_variables_are_called(self):
        library = filled(("one", "compose"), ("two", "curry"), ("three", "(abc-acb) [ ] curry"))
        library.change("one", "[ ] compose compose")
        library.change("two", "[ ] compose curry")
        library.change("three", "(xyz-xzy) [ ] curry")
        self.assertEqual(library.expand("one").text, "[ ] compose compose")

    def test_effects_that_differ_in_which_variables_are_the_same(self):
        # They agree, but the second one of each pair takes only values, or quotations, of one and the same shape.
        for general, special in (
            ("(ab-ab)", "(ab-abab) 1 (abc-cab) choose (a-)"),
            ("[ (ab-ab) ]", "[ (ab-abab) 1 (abc-cab) choose (a-) ]"),
            ("(ab-ab) compose", "(ab-abab) 1 (abc-cab) choose (a-) compose"),
        ):
            self.assertIs(agree(make(general), make(special)), True)
            self.assertNotEqual(effect(make(general)), effect(make(special)))
            for old, new in ((general, special), (special, general)):
                with self.subTest(old=old, new=new):
                    library = filled(("one", old))
                    self.assert_refused(library, NotEquivalent, library.change, "one", new, value="one")
                    library.change("one", f"(-) {old}")

    def test_effects_that_are_too_long_to_be_written(self):
        nested = " ".join(["(a-aa) [ ] curry curry"] * 12)
        library = filled(("long", nested))
        library.change("long", nested + " [ ] compose")
        library.change("long", nested + " (a-a)")
        self.assert_refused(library, NotEquivalent, library.change, "long", "t " + nested, value="long")

    def test_orders_above_two(self):
        library = filled(("high", "[ t ] (ab-ba) call"), ("two", "call"))
        for text in ("[ t ] (ab-ba) call", "(-) [ t ] (ab-ba) call", "t"):
            self.assert_refused(library, NotEquivalent, library.change, "high", text, value="high")
        self.assert_refused(library, NotEquivalent, library.change, "two", "(ab-a) call", value="two")
        self.assert_refused(library, NotEquivalent, library.change, "two", "[ t ] (ab-ba) call", value="two")
        library.change("two", "(-) call")

    def test_later_definitions_that_become_too_large_or_too_deep(self):
        library = filled(
            ("one", "(-)"), ("two", "[ [ [ [ [ one ] ] ] ] ]"), ("three", " ".join(["one"] * 30)), ("four", "one"),
        )
        self.assert_refused(library, TooLarge, library.change, "one", "(-) (-) (-)", limit=60)
        self.assert_refused(library, TooDeep, library.change, "one", "[ [ ] call ] call", limit=6)
        # The first definition tells, not the worst one.
        self.assert_refused(library, TooDeep, library.change, "one", "[ [ ] call ] call (-) (-)", limit=6)
        self.assert_refused(library, NotEquivalent, library.change, "one", "t t t", value="one")
        library.change("one", "(-) (-)")
        self.assertEqual(library.expand("three").size, 60)
        other = filled(("one", "(-)"), ("three", " ".join(["one"] * 30)), ("two", "[ [ [ [ [ one ] ] ] ] ]"))
        self.assert_refused(other, TooLarge, other.change, "one", "[ [ ] call ] call (-) (-)", limit=60)
        # A definition may be too large only through another one in between.
        chain = filled(("one", "(-)"), ("two", " ".join(["one"] * 8)), ("three", " ".join(["two"] * 7)))
        self.assert_refused(chain, TooLarge, chain.change, "one", "(-) (-)", limit=60)
        chain.change("one", "")

    def test_a_definition_that_becomes_empty(self):
        library = filled(("one", "(-)"), ("two", "[ one ] one"))
        library.change("one", "")
        self.assertEqual((library.expand("two").text, library.text_of("one")), ("[ ]", ""))


class DropTest(LibraryCase):
    def test_drop(self):
        library = filled(("a", "t"), ("b", "h"), ("c", "a a"))
        self.assertIsNone(library.drop("b"))
        self.assertEqual(library.names, ("a", "c"))
        self.assertRaises(InvalidText, library.expand, "b")
        library.drop("c")
        library.drop("a")
        self.assertEqual((library.names, len(library)), ((), 0))

    def test_errors(self):
        library = filled(("a", "t"), ("b", "[ [ a ] ]"), ("c", "t"))
        for name in NO_NAMES + ["d", "t", "call"]:
            with self.subTest(name=name):
                with self.assertRaises(NameMissing) as caught:
                    library.drop(name)
                self.assertIs(caught.exception.value, name)
        self.assert_refused(library, NameUsed, library.drop, "a", value="a")
        library.change("b", "[ [ t ] ]")
        library.drop("a")
        self.assertEqual(library.names, ("b", "c"))


class ReadTest(LibraryCase):
    def test_users(self):
        library = filled(("a", "t"), ("b", "[ [ a ] ]"), ("c", "a a b"), ("aa", "t"), ("d", "c"))
        self.assertEqual([library.users(name) for name in library.names], [("b", "c"), ("c",), ("d",), (), ()])
        self.assertIs(type(library.users("d")), tuple)

    def test_names_that_are_missing(self):
        library = filled(("a", "t"))
        for name in NO_NAMES + ["b", "t", "call"]:
            for function in (library.text_of, library.users):
                with self.subTest(name=name, function=function):
                    with self.assertRaises(NameMissing) as caught:
                        function(name)
                    self.assertIs(caught.exception.value, name)


class UndoTest(LibraryCase):
    def test_each_kind_of_change(self):
        library = filled(("a", "t"), ("b", "a h"), ("c", "h"))
        states = [state(library)]
        library.change("a", "(-) t")
        states.append(state(library))
        library.drop("c")
        states.append(state(library))
        library.drop("b")
        states.append(state(library))
        library.define("b", "a a")
        for expected in states[::-1]:
            self.assertIsNone(library.undo())
            self.assertEqual(state(library), expected)
        for left in (("a", "b"), ("a",), ()):
            library.undo()
            self.assertEqual(library.names, left)
        self.assert_refused(library, NothingToUndo, library.undo)
        self.assert_refused(library, NothingToUndo, library.undo)

    def test_an_empty_library(self):
        self.assertRaises(NothingToUndo, Library(WORDS).undo)

    def test_a_change_to_the_same_text_counts(self):
        library = filled(("a", "t"))
        library.change("a", "t")
        library.undo()
        self.assertEqual(library.names, ("a",))
        library.undo()
        self.assertEqual(library.names, ())

    def test_a_definition_comes_back_to_its_old_place(self):
        library = filled(("a", "t"), ("b", "h"), ("c", "a"))
        library.drop("b")
        library.undo()
        self.assertEqual(library.names, ("a", "b", "c"))
        library.change("c", "a (-)")
        library.drop("b")
        library.define("d", "t")
        library.undo()
        library.undo()
        self.assertEqual(library.names, ("a", "b", "c"))
        self.assertEqual(library.text_of("c"), "a (-)")

    def test_refused_changes_are_not_undone(self):
        library = filled(("a", "t"), ("b", "a"))
        for function, arguments in ((library.define, ("a", "t")), (library.change, ("a", "h")), (library.drop, ("a",))):
            self.assertRaises((NameTaken, NotEquivalent, NameUsed), function, *arguments)
        library.undo()
        self.assertEqual(library.names, ("a",))

    def test_undone_changes_do_not_come_back(self):
        library = filled(("a", "t"))
        library.undo()
        library.define("b", "t")
        library.undo()
        self.assertRaises(NothingToUndo, library.undo)

    def test_the_deeds_of_several_changes_are_undone_one_at_a_time(self):
        library = filled(("a", "t"))
        library.change_all(("define", "b", "a"), ("change", "a", "(-) t"), ("drop", "b"))
        seen = []
        for time in range(4):
            library.undo()
            seen.append((library.names, [library.text_of(name) for name in library.names]))
        self.assertEqual(seen, [(("a", "b"), ["(-) t", "a"]), (("a", "b"), ["t", "a"]), (("a",), ["t"]), ((), [])])
        self.assertRaises(NothingToUndo, library.undo)

    def test_many_changes(self):
        library = filled(("a", "t"))
        for time in range(2000):
            library.change("a", "t" if time % 2 else "(-) t")
        for time in range(2001):
            library.undo()
        self.assertRaises(NothingToUndo, library.undo)


class ChangeAllTest(LibraryCase):
    def test_all_deeds(self):
        library = Library(WORDS)
        self.assertIsNone(library.change_all())
        self.assertIsNone(library.change_all(
            ("define", "dup", "(a-aa)"), ("define", "b", "dup"), ("change", "b", "(a-aa)"), ("drop", "dup"),
        ))
        self.assertEqual((library.names, library.text_of("b"), library.busy), (("b",), "(a-aa)", False))

    def test_invalid_deeds(self):
        library = filled(("a", "t"))
        wrong = [
            (), ("define",), ("define", "b"), ("define", "b", "t", "t"), ("change", "a"), ("change",), ("change", "a", "t", 1),
            ("drop",), ("drop", "a", "t"), ("undo",), ("undo", "a"), ("Define", "b", "t"), ("", "b", "t"), (None, "b", "t"),
            (["define"], "b", "t"), (("define",), "b", "t"), ["define", "b", "t"], ["drop", "a"], "drop", "define b t",
            ("trial", "a"), ("expand", "t"), (True, "a"), (b"drop", "a"), *make_odd_values(),
        ]
        for value in wrong:
            with self.subTest(value=value):
                for deeds, index in (
                    ((value,), 0), ((("define", "b", "t"), value, None), 1), ((("drop", "missing"), ("define", None, None), value), 2),
                ):
                    self.assert_refused(library, InvalidDeeds, library.change_all, *deeds, index=index)
        seen = []
        self.assertRaises(InvalidDeeds, library.change_all, ("drop", "a"), None, watch=lambda *told: seen.append(told))
        self.assertEqual(seen, [])

    def test_errors_of_deeds(self):
        library = filled(("a", "t"), ("b", "a"))
        done = ("define", "c", "b")
        for deed, error, told in (
            (("define", "A", "t"), InvalidName, {"value": "A"}), (("define", None, "t"), InvalidName, {"value": None}),
            (("define", "a", "t"), NameTaken, {"value": "a"}), (("define", "d", "["), InvalidText, {"value": "["}),
            (("define", "d", None), InvalidText, {"value": None}), (("define", "d", " ".join(["t"] * 61)), TooLarge, {"limit": 60}),
            (("define", "d", "[ [ [ [ [ [ [ ] ] ] ] ] ] ]"), TooDeep, {"limit": 6}),
            (("define", "d", "1 call"), NoEffect, {"index": 1}), (("change", "d", "t"), NameMissing, {"value": "d"}),
            (("change", [], "t"), NameMissing, {"value": []}), (("change", "a", "c"), InvalidText, {"value": "c"}),
            (("change", "a", "t t"), NotEquivalent, {"value": "a"}), (("drop", "d"), NameMissing, {"value": "d"}),
            (("drop", "b"), NameUsed, {"value": "b"}), (("drop", {}), NameMissing, {"value": {}}),
        ):
            with self.subTest(deed=deed):
                self.assert_refused(library, error, library.change_all, done, deed, ("drop", "a"), **told)
                self.assert_refused(library, error, library.change_all, done, deed, **told)
        many = [("define", chr(97 + number) * 3, "t") for number in range(19)]
        self.assert_refused(library, TooManyDefinitions, library.change_all, *many, limit=20)

    def test_a_single_list_of_deeds_is_no_deed(self):
        self.assertRaises(InvalidDeeds, Library(WORDS).change_all, [("define", "a", "t")])

    def test_watch(self):
        library = filled(("a", "t"))
        seen = []

        def watch(watched, place):
            self.assertIs(watched, library)
            seen.append((place, watched.names, watched.busy, watched.expand("a").text, len(watched), repr(watched)))

        library.change_all(("define", "b", "a"), ("change", "a", "(-) t"), ("drop", "b"), watch=watch)
        self.assertEqual(seen, [
            (0, ("a", "b"), True, "t", 2, "Library(2 definitions)"), (1, ("a", "b"), True, "(-) t", 2, "Library(2 definitions)"),
            (2, ("a",), True, "(-) t", 1, "Library(1 definitions)"),
        ])
        self.assertIs(library.busy, False)
        library.change_all(watch=watch)
        library.change_all(("drop", "a"), watch=None)
        self.assertEqual(len(seen), 3)

    def test_watch_sees_the_deeds_before_a_failing_one(self):
        library, seen = filled(("a", "t")), []
        with self.assertRaises(NameUsed):
            library.change_all(("define", "b", "a"), ("drop", "a"), ("drop", "b"), watch=lambda watched, place: seen.append(place))
        self.assertEqual((seen, library.names), ([0], ("a",)))

    def test_errors_of_watch(self):
        class Odd(BaseException):
            pass

        for error in (Odd(), KeyError("a"), ValueError(), NameUsed("a"), Busy(), StopIteration(), KeyboardInterrupt()):
            for last in range(3):
                library = filled(("a", "t"), ("b", "a"))
                before = history(library)

                def watch(watched, place):
                    if place == last:
                        raise error

                with self.assertRaises(type(error)) as caught:
                    library.change_all(("drop", "b"), ("drop", "a"), ("define", "c", "t"), watch=watch)
                self.assertIs(caught.exception, error)
                self.assertEqual(history(library), before)
                library.change_all(("drop", "b"))
                self.assertEqual(library.names, ("a",))

    def test_busy(self):
        library = filled(("a", "t"), ("b", "a"))
        seen = []

        def watch(watched, place):
            before = watched.names
            for function, arguments in (
                (watched.define, ("c", "t")), (watched.define, (None, None)), (watched.change, ("a", "(-) t")),
                (watched.change, (None, None)), (watched.drop, ("b",)), (watched.drop, (None,)), (watched.change_all, ()),
                (watched.change_all, (("drop", "b"),)), (watched.change_all, (None,)), (watched.undo, ()),
                (watched.trial, ()), (attempt, (watched, len)),
            ):
                self.assertRaises(Busy, function, *arguments)
                self.assertIs(watched.busy, True)
                self.assertEqual(watched.names, before)
            self.assertRaises(NotALibrary, attempt, None, len)
            seen.append((watched.expand("[ b ] a").text, watched.users("a"), watched.text_of("b"), watched.vocabulary))

        library.change_all(("define", "x", "t"), ("change", "b", "t"), ("drop", "x"), watch=watch)
        self.assertEqual(seen, [("[ t ] t", ("b",), "a", WORDS), ("[ t ] t", (), "t", WORDS), ("[ t ] t", (), "t", WORDS)])
        self.assertIs(library.busy, False)
        self.assertEqual(len(history(library)), 6)

    def test_busy_of_another_library(self):
        library, other = filled(("a", "t")), filled(("b", "h"))

        def watch(watched, place):
            other.change_all(("define", "c" * (place + 1), "t"), watch=lambda inner, at: self.assertIs(library.busy, True))
            self.assertIs(other.busy, False)
            other.undo()
            other.define("d" * (place + 1), "t")

        library.change_all(("define", "x", "t"), ("drop", "x"), watch=watch)
        self.assertEqual((library.names, other.names), (("a",), ("b", "d", "dd")))

    def test_errors_that_are_caught_by_watch(self):
        library = Library(WORDS)

        def watch(watched, place):
            with self.assertRaises(Busy):
                watched.undo()

        library.change_all(("define", "a", "t"), ("define", "b", "t"), watch=watch)
        self.assertEqual(library.names, ("a", "b"))


class TrialTest(LibraryCase):
    def test_a_block_that_ends_normally(self):
        library = filled(("a", "t"), ("b", "a"))
        before = history(library)
        with library.trial() as held:
            self.assertIs(held, library)
            held.drop("b")
            held.change("a", "(-) t")
            held.define("c", "a")
            self.assertEqual(library.names, ("a", "c"))
            self.assertIs(library.busy, False)
        self.assertEqual(history(library), before)

    def test_changes_before_the_block_can_be_undone_in_it(self):
        library = filled(("a", "t"), ("b", "a"))
        before = history(library)
        with library.trial():
            library.undo()
            library.undo()
            self.assertRaises(NothingToUndo, library.undo)
            library.define("z", "h")
        self.assertEqual(history(library), before)
        library.undo()
        self.assertEqual(library.names, ("a",))

    def test_a_block_that_ends_by_an_error(self):
        class Odd(BaseException):
            pass

        library = filled(("a", "t"))
        before = history(library)
        for error in (Odd(), KeyError(), NothingToUndo(), NoEffect(1)):
            with self.assertRaises(type(error)) as caught:
                with library.trial():
                    library.define("b", "a")
                    raise error
            self.assertIs(caught.exception, error)
            self.assertEqual(history(library), before)

    def test_a_block_that_ends_by_a_return_or_a_break(self):
        library = filled(("a", "t"))

        def leave():
            with library.trial():
                library.drop("a")
                return library.names

        self.assertEqual((leave(), library.names), ((), ("a",)))
        for time in range(3):
            with library.trial():
                library.drop("a")
                break
        self.assertEqual(library.names, ("a",))

    def test_nested_blocks(self):
        library = filled(("a", "t"))
        with library.trial():
            library.define("b", "t")
            with library.trial():
                library.define("c", "t")
                library.drop("a")
            self.assertEqual(library.names, ("a", "b"))
            library.undo()
            self.assertEqual(library.names, ("a",))
        self.assertEqual(library.names, ("a",))

    def test_a_block_that_is_entered_several_times(self):
        library = filled(("a", "t"))
        trial = library.trial()
        with trial:
            library.define("b", "t")
        self.assertEqual(library.names, ("a",))
        library.define("c", "t")
        with trial:
            library.drop("a")
            with trial:
                library.drop("c")
                with trial:
                    library.define("d", "t")
                self.assertEqual(library.names, ())
            self.assertEqual(library.names, ("c",))
        self.assertEqual(library.names, ("a", "c"))
        with self.assertRaises(KeyError):
            with trial:
                with trial:
                    library.drop("a")
                    raise KeyError()
        self.assertEqual(library.names, ("a", "c"))

    def test_it_begins_when_the_block_is_entered(self):
        library = Library(WORDS)
        trial = library.trial()
        library.define("a", "t")
        with trial:
            library.drop("a")
        self.assertEqual(library.names, ("a",))

    def test_several_changes_in_a_block(self):
        library = filled(("a", "t"))
        with library.trial():
            library.change_all(("define", "b", "t"), ("drop", "a"))
            self.assertRaises(NameMissing, library.change_all, ("define", "c", "t"), ("drop", "a"))
            self.assertEqual(library.names, ("b",))
        self.assertEqual(library.names, ("a",))

    def test_a_block_during_several_changes(self):
        library = filled(("a", "t"))
        trial = library.trial()
        seen = []

        def watch(watched, place):
            with trial as held:
                self.assertRaises(Busy, held.define, "z", "t")
                seen.append(held.names)
            self.assertIs(watched.busy, True)
            seen.append(watched.names)

        library.change_all(("define", "b", "t"), ("define", "c", "t"), watch=watch)
        self.assertEqual(seen, [("a", "b"), ("a", "b"), ("a", "b", "c"), ("a", "b", "c")])
        self.assertEqual((library.names, library.busy, len(history(library))), (("a", "b", "c"), False, 4))

    def test_a_block_that_begins_and_ends_during_different_deeds(self):
        library = filled(("a", "t"))
        trial = library.trial()
        seen = []

        def watch(watched, place):
            if place == 0:
                trial.__enter__()
            elif place == 1:
                trial.__exit__(None, None, None)
            seen.append((watched.names, watched.busy))

        library.change_all(("define", "b", "t"), ("define", "c", "t"), ("define", "d", "t"), watch=watch)
        self.assertEqual(seen, [(("a", "b"), True), (("a", "b"), True), (("a", "b", "d"), True)])
        self.assertEqual((library.names, library.busy), (("a", "b", "d"), False))
        library.undo()
        self.assertEqual(library.names, ("a", "b"))

    def test_a_block_that_ends_during_several_changes(self):
        for fails in (False, True):
            library = filled(("a", "t"))
            trial = library.trial()
            trial.__enter__()
            library.define("b", "t")
            before = history(library)

            def watch(watched, place):
                if place == 0:
                    trial.__exit__(None, None, None)
                    self.assertEqual((watched.names, watched.busy), (("a",), True))
                    self.assertRaises(Busy, watched.undo)
                elif fails:
                    raise KeyError()

            deeds = (("define", "c", "t"), ("define", "d", "t"))
            if fails:
                self.assertRaises(KeyError, library.change_all, *deeds, watch=watch)
                self.assertEqual(history(library), before)
            else:
                library.change_all(*deeds, watch=watch)
                self.assertEqual((library.names, len(history(library))), (("a", "d"), 3))
            self.assertIs(library.busy, False)

    def test_a_block_that_begins_during_several_changes_and_ends_after_them(self):
        library = filled(("a", "t"))
        trial = library.trial()

        def watch(watched, place):
            if place == 0:
                trial.__enter__()

        library.change_all(("define", "b", "t"), ("define", "c", "t"), watch=watch)
        trial.__exit__(None, None, None)
        self.assertEqual((library.names, library.busy), (("a", "b"), False))
        library.define("d", "t")

    def test_blocks_of_two_libraries(self):
        one, other = filled(("a", "t")), filled(("b", "t"))
        with one.trial(), other.trial():
            one.drop("a")
            with one.trial():
                other.drop("b")
            self.assertEqual((one.names, other.names), ((), ()))
        self.assertEqual((one.names, other.names), (("a",), ("b",)))


class AttemptTest(LibraryCase):
    def test_attempt(self):
        library = filled(("a", "t"))
        before = history(library)

        def act(held):
            self.assertIs(held, library)
            held.drop("a")
            held.define("b", "h")
            return held.names

        self.assertEqual(attempt(library, act), ("b",))
        self.assertEqual(history(library), before)
        self.assertIsNone(attempt(library, lambda held: held.undo()))
        self.assertEqual(attempt(library, lambda held: attempt(held, act)), ("b",))
        self.assertEqual(history(library), before)

    def test_errors_come_through(self):
        library = filled(("a", "t"))
        error = KeyError("b")

        def act(held):
            held.drop("a")
            raise error

        with self.assertRaises(KeyError) as caught:
            attempt(library, act)
        self.assertIs(caught.exception, error)
        self.assertEqual(library.names, ("a",))
        self.assertRaises(NameMissing, attempt, library, lambda held: held.drop("b"))

    def test_no_libraries(self):
        for value in ["", WORDS, make("t"), *make_odd_values()]:
            with self.subTest(value=value):
                with self.assertRaises(NotALibrary) as caught:
                    attempt(value, None)
                self.assertIs(caught.exception.value, value)


class ModelTest(LibraryCase):
    """Random calls on two libraries in turn, beside a model that keeps a list of definitions for each change."""

    TEXTS = ("t", "(-) t", "[ t ] call", "a", "b", "c", "a b", "[ a ] call", "[ b c ]", "h", "t t", "[ h ]", "1 call", "[", "")

    def model_change(self, definitions, word, name, text):
        """Return the definitions after a change, or None if it is impossible."""
        names = [definition[0] for definition in definitions]
        uses = [definition[0] for definition in definitions if name in definition[1].split()]
        if word == "drop":
            possible = name in names and not uses
            return [definition for definition in definitions if definition[0] != name] if possible else None
        place = names.index(name) if name in names else len(names)
        if (word == "define") == (name in names):
            return None
        program = self.model_expand(definitions[:place], text)
        try:
            found = program and effect(program)
        except NoEffect:
            found = None
        if found is None and (program is None or program.text != ""):
            return None
        if word == "change":
            old = self.model_expand(definitions[:place], definitions[place][1])
            if effect(old) != effect(program) or not agree(old, program):
                return None
        return definitions[:place] + [(name, text)] + definitions[place + 1:]

    def model_expand(self, definitions, text):
        for name, inner in definitions[::-1]:
            text = " ".join(inner if token == name else token for token in text.split(" "))
        try:
            return make(" ".join(text.split()))
        except InvalidText:
            return None

    def assert_state(self, library, definitions):
        self.assertEqual([(name, library.text_of(name)) for name in library.names], definitions)
        for place, (name, text) in enumerate(definitions):
            self.assertEqual(library.expand(name), self.model_expand(definitions[:place], text))

    def test_random_calls(self):
        source = random.Random(50)
        counts = {True: 0, False: 0}
        for attempt_number in range(40):
            libraries = [(Library(WORDS), [[]]), (Library(WORDS), [[]])]
            for step in range(60):
                library, model = source.choice(libraries)
                if source.random() < 0.15:
                    possible = len(model) > 1
                    if possible:
                        model.pop()
                        library.undo()
                    else:
                        self.assertRaises(NothingToUndo, library.undo)
                else:
                    word = source.choice(("define", "define", "change", "change", "change", "drop"))
                    name, text = source.choice("abcd"), source.choice(self.TEXTS)
                    after = self.model_change(model[-1], word, name, text)
                    arguments = (name,) if word == "drop" else (name, text)
                    possible = after is not None
                    if possible:
                        getattr(library, word)(*arguments)
                        model.append(after)
                    else:
                        with self.assertRaises((LookupError, ValueError, TypeError, ArithmeticError)):
                            getattr(library, word)(*arguments)
                counts[possible] += 1
                self.assert_state(library, model[-1])
        self.assertGreater(min(counts.values()), 300)


class InterfaceTest(unittest.TestCase):
    def test_methods_stand_in_the_class(self):
        for name in (
            "expand", "define", "change", "drop", "change_all", "undo", "trial", "text_of", "users", "__len__", "__repr__",
        ):
            self.assertIn(name, vars(Library))

    def test_definitions_stand_in_their_file(self):
        self.assertEqual((Library.__module__, attempt.__module__), ("stackquotes.libraries",) * 2)


if __name__ == "__main__":
    unittest.main()
