import random
import unittest

from stackquotes.effects import effect
from stackquotes.errors import (
    HigherOrder, InvalidFunctions, InvalidResult, InvalidStack, NoEffect, NotAProgram, TooShort,
)
from stackquotes.programs import Program
from stackquotes.running import run
from stackquotes.samples import sample_vocabulary
from stackquotes.vocabularies import Vocabulary
from tests import generating, reference
from tests.samples_of_values import make_odd_values

WORDS = sample_vocabulary()
FUNCTIONS = {
    "f": lambda one, other: (10 * one + other,),
    "g": lambda one: (one, -one),
    "h": lambda: (7,),
    "t": lambda one: (one + 1,),
}
NO_PROGRAMS = ["", "t", WORDS, *make_odd_values()]
# Values that are not on any stack.
NO_VALUES = [value for value in make_odd_values() if not isinstance(value, int) or isinstance(value, bool)]
WRONG_TEXTS = (
    " ", "t ", " t", "t  t", "[", "]", "[ t", "u", "dup", "(a-b)", "01", "-0", "1234567890123456789", "[t]", "t\n", "x0",
)


def make(text):
    return Program(WORDS, text)


class Recorder:
    """Functions that note their calls, and return what they are told to."""

    def __init__(self, vocabulary, results=None):
        self.calls = []
        self.results = results or {}
        self.functions = {name: self.make_function(name, vocabulary.arity(name)[1]) for name in vocabulary.names}

    def make_function(self, name, outputs):
        def function(*inputs):
            self.calls.append((name, *inputs))
            return self.results.get(name, tuple(range(len(self.calls) * 100, len(self.calls) * 100 + outputs)))
        return function


class RunTest(unittest.TestCase):
    def assert_run(self, text, stack, expected, words=WORDS, functions=None):
        with self.subTest(text=text, stack=stack):
            found = run(Program(words, text), FUNCTIONS if functions is None else functions, stack)
            self.assertEqual(found, expected)
            self.assertIs(type(found), tuple)
            self.assertEqual([type(value) for value in found], [type(value) for value in expected])

    def test_literals(self):
        self.assert_run("", (), ())
        self.assert_run("0 -7 999999999999999999", (), (0, -7, 999999999999999999))
        self.assert_run("1", (5, 6), (5, 6, 1))

    def test_shuffles(self):
        self.assert_run("(-)", (1,), (1,))
        self.assert_run("(a-)", (1, 2), (1,))
        self.assert_run("(a-aa)", (1, 2), (1, 2, 2))
        self.assert_run("(abc-cab)", (0, 1, 2, 3), (0, 3, 1, 2))
        self.assert_run("(abcde-edcbaabc)", (1, 2, 3, 4, 5), (5, 4, 3, 2, 1, 1, 2, 3))
        self.assert_run("(zx-xz)", ("t", 5), (5, "t"))

    def test_unknown_words(self):
        self.assert_run("f", (9, 3, 4), (9, 34))
        self.assert_run("g", (3,), (3, -3))
        self.assert_run("h t", (), (8,))
        words = Vocabulary(("none", 0, 0), ("drop", 3, 0), ("make", 0, 3), ("turn", 3, 3), ("sum", 3, 1))
        functions = {
            "none": lambda: (), "drop": lambda a, b, c: (), "make": lambda: (1, 2, 3), "turn": lambda a, b, c: (b, c, a),
            "sum": lambda a, b, c: (a + b + c,),
        }
        for text, expected in (
            ("none", (6, 7, 8)), ("drop", ()), ("make", (6, 7, 8, 1, 2, 3)), ("turn", (7, 8, 6)), ("sum", (21,)),
            ("make sum", (6, 7, 8, 6)), ("make turn turn", (6, 7, 8, 3, 1, 2)),
        ):
            self.assert_run(text, (6, 7, 8), expected, words, functions)

    def test_core_words(self):
        self.assert_run("[ t ] call", (1,), (2,))
        self.assert_run("[ t ] dip", (1, 5), (2, 5))
        self.assert_run("[ h ] dip", ("f",), (7, "f"))
        self.assert_run("[ f ] curry call", (1, 2), (12,))
        self.assert_run("[ t ] [ g ] compose call", (1,), (2, -2))
        self.assert_run("choose", (1, 2, 3), (2,))
        self.assert_run("choose", (0, 2, 3), (3,))
        self.assert_run("choose", (-1, 2, 3), (2,))
        self.assert_run("choose", (10 ** 19, 2, 3), (2,))

    def test_quotations_that_are_executed(self):
        self.assert_run("[ t ] [ g (ab-a) ] choose call", (5, 1), (6,))
        self.assert_run("[ t ] [ g (ab-b) ] choose call", (5, 0), (-5,))
        self.assert_run("[ t ] (a-aa) compose (a-aa) compose call", (0,), (4,))
        self.assert_run("[ t ] (a-aa) [ call ] dip call", (0,), (2,))
        self.assert_run("[ [ t ] dip ] dip", (1, 2, 3), (2, 2, 3))
        self.assert_run("[ [ f ] curry ] call call", (1, 2), (12,))
        self.assert_run("[ t ] [ call ] curry call", (1,), (2,))
        self.assert_run("[ call ] [ t ] (ab-ba) call", (1,), (2,))
        self.assert_run("1 2 [ f f ] curry curry [ t ] compose call", (3,), (43,))

    def test_quotations_that_are_left(self):
        self.assert_run("[ ]", (), ("",))
        self.assert_run("[ t ]", (1,), (1, "t"))
        self.assert_run("[ (a-aa) [ f ] call ]", (), ("(a-aa) [ f ] call",))
        self.assert_run("[ t ] (a-aa)", (), ("t", "t"))
        self.assert_run("[ [ ] ]", (), ("[ ]",))
        self.assert_run("h [ t ] [ g (ab-a) ] choose", (), ("t",))
        self.assert_run("0 [ t ] [ g (ab-a) ] choose", (), ("g (ab-a)",))
        self.assert_run("[ [ [ [ [ [ t ] ] ] ] ] ]", (), ("[ [ [ [ [ t ] ] ] ] ]",))

    def test_curried_quotations(self):
        self.assert_run("[ f ] curry", (5,), ("5 f",))
        self.assert_run("[ f ] curry", (-5,), ("-5 f",))
        self.assert_run("[ ] curry", (5,), ("5",))
        self.assert_run("[ f ] curry curry", (4, 5), ("4 5 f",))
        self.assert_run("[ t ] [ call ] curry", (), ("[ t ] call",))
        self.assert_run("[ ] [ ] curry", (), ("[ ]",))
        self.assert_run("[ ] [ ] curry [ ] curry", (), ("[ [ ] ]",))
        self.assert_run("[ ] [ call ] curry", (), ("[ ] call",))
        self.assert_run("t [ f ] curry [ ] curry", (5,), ("[ 6 f ]",))
        self.assert_run("[ ] curry", ("t t",), ("[ t t ]",))
        self.assert_run("[ 1 ] curry curry", ("", "(a-)"), ("[ ] [ (a-) ] 1",))

    def test_curried_integers_of_many_digits(self):
        long = 12345678901234567890
        self.assert_run("[ f ] curry", (long,), (f"{long} f",))
        self.assert_run("[ f ] curry", (-long,), (f"-{long} f",))
        self.assert_run("[ ] curry [ ] curry", (10 ** 19,), ("[ 10000000000000000000 ]",))
        square = {**FUNCTIONS, "t": lambda one: (one * one,)}
        for digits in (63, 64, 65, 127, 128, 129, 300):
            for sign in (1, -1):
                number = {**FUNCTIONS, "h": lambda: (sign * 10 ** digits,)}
                text = ("-" if sign < 0 else "") + "1" + "0" * digits
                self.assert_run("h [ ] curry", (), (text,), functions=number)
        # Python's own str(..) refuses this one.
        self.assert_run("[ t ]" + " (a-aa) compose" * 9 + " call [ ] curry", (10 ** 19,), ("1" + "0" * (19 * 512),), functions={
            **FUNCTIONS, "t": lambda one: (one * 10 ** 19 if one < 10 ** (19 * 512) else one,),
        })
        self.assert_run("t t [ ] curry", (10 ** 15,), ("1" + "0" * 60,), functions=square)

    def test_composed_quotations(self):
        self.assert_run("[ t ] [ f ] compose", (), ("t f",))
        self.assert_run("[ ] [ f ] compose", (), ("f",))
        self.assert_run("[ f ] [ ] compose", (), ("f",))
        self.assert_run("[ ] [ ] compose", (), ("",))
        self.assert_run("[ ] [ ] compose [ ] curry", (), ("[ ]",))
        self.assert_run("[ t ] (a-aa) compose (a-aa) compose", (), ("t t t t",))
        self.assert_run("[ f ] curry [ t ] compose", (5,), ("5 f t",))
        self.assert_run("[ t ] 5 [ f ] curry compose", (), ("t 5 f",))

    def test_strings_on_the_stack(self):
        self.assert_run("", ("", "t", "(a-aa) [ f ]", 3), ("", "t", "(a-aa) [ f ]", 3))
        self.assert_run("(ab-ba)", ("t", ""), ("", "t"))
        self.assert_run("(a-aa)", ("[ ] call",), ("[ ] call", "[ ] call"))
        self.assert_run("choose", (1, "t", 5), ("t",))
        self.assert_run("choose", (0, "t", "[ ]"), ("[ ]",))
        # They need no effect.
        self.assert_run("(ab-b)", ("1 call", "(a-aa) call"), ("(a-aa) call",))

    def test_strings_that_are_longer_and_deeper_than_programs(self):
        long = " ".join(["t"] * 1000)
        deep = "[ " * 500 + "]" + " ]" * 499
        deeper = "[ " * 660 + "]" + " ]" * 659
        self.assert_run("", (long, deep, deeper), (long, deep, deeper))
        self.assert_run("(ab-ba)", (long, deep), (deep, long))
        self.assert_run("[ h ] curry", (deep,), (f"[ {deep} ] h",))
        self.assert_run("[ ] curry [ ] curry", (long,), (f"[ [ {long} ] ]",))

    def test_results_can_be_handed_on(self):
        stack = run(make("[ t ]" + " (a-aa) compose" * 10), FUNCTIONS, ())
        self.assertEqual(stack, (" ".join(["t"] * 1024),))
        for times in range(20):
            stack = run(make("[ ] curry"), FUNCTIONS, stack)
        self.assertEqual(stack, ("[ " * 20 + " ".join(["t"] * 1024) + " ]" * 20,))

    def test_the_values_below_stay(self):
        self.assert_run("t", ("f", 1, "", 2), ("f", 1, "", 3))
        self.assert_run("(a-) h", (1, 2, "t", "t"), (1, 2, "t", 7))

    def test_long_executions_without_functions(self):
        self.assert_run("[ (ab-ba) ]" + " (a-aa) compose" * 25 + " call", (1, 2), (1, 2))

    def test_by_keyword_and_again(self):
        for time in range(2):
            self.assertEqual(run(stack=(1,), functions=FUNCTIONS, program=make("t")), (2,))

    def test_random_programs(self):
        source = random.Random(30)
        functions = {
            "f": lambda one, other: (one - 2 * other,), "g": lambda one: (one + 1, one % 3), "h": lambda: (3,),
            "t": lambda one: (one % 2,), "z": lambda one: (),
        }
        found = 0
        for attempt in range(1500):
            row = generating.make_row_with_effect(source, source.randint(0, 10))
            text = " ".join(row)
            stack = tuple(source.choice((0, 1, 2, -5)) for place in range(12))
            with self.subTest(text=text, stack=stack):
                program = Program(generating.WORDS, text)
                if reference.effect_order(generating.WORDS, text) > 1:
                    self.assertRaises(HigherOrder, run, program, functions, stack)
                    continue
                expected = reference.run(generating.WORDS, text, functions, stack)
                self.assertEqual(run(program, functions, stack), expected)
                found += any(isinstance(value, str) for value in expected)
        self.assertGreater(found, 200)


class FunctionsTest(unittest.TestCase):
    def calls(self, text, stack, results=None):
        recorder = Recorder(WORDS, results)
        run(make(text), recorder.functions, stack)
        return recorder.calls

    def test_inputs_come_by_position_the_lowest_first(self):
        self.assertEqual(self.calls("f", (1, 2, 3)), [("f", 2, 3)])
        self.assertEqual(self.calls("g f t", (5,)), [("g", 5), ("f", 100, 101), ("t", 200)])
        self.assertEqual(self.calls("h", (5,)), [("h",)])

    def test_only_executed_words_call_functions(self):
        self.assertEqual(self.calls("[ t ]", (5,)), [])
        self.assertEqual(self.calls("[ t ] [ h f ] choose call", (5, 1)), [("t", 5)])
        self.assertEqual(self.calls("[ t ] [ h f ] choose call", (5, 0)), [("h",), ("f", 5, 100)])
        self.assertEqual(self.calls("[ t ] (a-)", (5, "h")), [])

    def test_each_execution_calls_the_function(self):
        self.assertEqual(self.calls("[ h (a-) ]" + " (a-aa) compose" * 3 + " call", ()), [("h",)] * 8)
        self.assertEqual(self.calls("[ t ] (a-aa) [ call ] dip call", (1,)), [("t", 1), ("t", 100)])
        self.assertEqual(self.calls("[ t ] (a-aa) [ call ] dip call", (1,), {"t": (1,)}), [("t", 1)] * 2)
        self.assertEqual(self.calls("[ h 5 f (a-) ] (a-aa) [ call ] dip call", (), {"h": (1,), "f": (2,)}), [
            ("h",), ("f", 1, 5), ("h",), ("f", 1, 5),
        ])

    def test_order_of_the_calls(self):
        self.assertEqual([call[0] for call in self.calls("[ h ] dip [ t ] dip f g", (1, 2))], ["h", "t", "f", "g"])
        self.assertEqual([call[0] for call in self.calls("h [ t ] [ g f ] compose call", ())], ["h", "t", "g", "f"])

    def test_functions_need_not_be_the_same_each_time(self):
        numbers = iter((3, 0, 8, 1))
        functions = {**FUNCTIONS, "h": lambda: (next(numbers),)}
        self.assertEqual(run(make("h h h h"), functions, ()), (3, 0, 8, 1))

    def test_functions_of_words_that_are_not_executed_are_not_checked(self):
        self.assertEqual(run(make("t"), {"f": None, "g": 5, "h": (), "t": FUNCTIONS["t"]}, (1,)), (2,))

    def test_functions_may_run_programs_themselves(self):
        functions = {**FUNCTIONS, "h": lambda: run(make("1 2 f"), FUNCTIONS, ())}
        self.assertEqual(run(make("h h f"), functions, ()), (132,))

    def test_a_dict_of_another_class(self):
        class Table(dict):
            pass

        self.assertEqual(run(make("t"), Table(FUNCTIONS), (1,)), (2,))

    def test_results(self):
        for name, good in (("f", (0,)), ("g", (10 ** 19, -1)), ("h", (5,)), ("t", (-(10 ** 19),))):
            functions = {**FUNCTIONS, name: lambda *inputs: good}
            self.assertEqual(run(make(name), functions, (1, 2))[-len(good):], good)
        words = Vocabulary(("nothing", 0, 0), ("pair", 0, 2))
        for word, wrong in (
            ("nothing", [None, (1,), [], 0, "", ((),), False]),
            ("pair", [
                None, (), (1,), (1, 2, 3), [1, 2], 5, "12", (1, True), (False, 1), (1, None), (None, 1), (1, "2"), ("", ""),
                ((1, 2),), {1: 2, 3: 4}, {1, 2}, range(2), b"12", (1, (2,)), True,
            ]),
        ):
            for value in wrong:
                functions = {"nothing": lambda: (), "pair": lambda: (1, 2), word: lambda: value}
                with self.subTest(word=word, value=value):
                    with self.assertRaises(InvalidResult) as caught:
                        run(Program(words, word), functions, ())
                    self.assertIs(caught.exception.value, value)

    def test_an_invalid_result_ends_the_run(self):
        recorder = Recorder(WORDS, {"t": None})
        self.assertRaises(InvalidResult, run, make("h t h"), recorder.functions, ())
        self.assertEqual(recorder.calls, [("h",), ("t", 100)])

    def test_errors_of_functions_come_through(self):
        class Odd(Exception):
            pass

        for error in (Odd("x"), KeyError("t"), ValueError(), NoEffect(3), InvalidStack(1), HigherOrder(), StopIteration()):
            def fail(one):
                raise error

            with self.subTest(error=error):
                with self.assertRaises(type(error)) as caught:
                    run(make("[ t ] call"), {**FUNCTIONS, "t": fail}, (1,))
                self.assertIs(caught.exception, error)


class ErrorsTest(unittest.TestCase):
    def test_no_programs(self):
        for value in NO_PROGRAMS:
            with self.subTest(value=value):
                with self.assertRaises(NotAProgram) as caught:
                    run(value, None, None)
                self.assertIs(caught.exception.value, value)

    def test_functions(self):
        less = {name: FUNCTIONS[name] for name in ("f", "g", "h")}
        for value in [
            *make_odd_values(), "f", less, {**FUNCTIONS, "u": len}, {**less, "u": len},
            {**less, 1: len}, {**FUNCTIONS, None: len}, {**less, ("t",): len}, list(FUNCTIONS), tuple(FUNCTIONS.items()),
        ]:
            with self.subTest(value=value):
                for program, stack in ((make("t"), None), (make("1 call"), ()), (make("call"), (True,))):
                    with self.assertRaises(InvalidFunctions) as caught:
                        run(program, value, stack)
                    self.assertIs(caught.exception.value, value)
        self.assertEqual(run(Program(Vocabulary(), "1"), {}, ()), (1,))
        self.assertRaises(InvalidFunctions, run, Program(Vocabulary(), "1"), {"f": len}, ())

    def assert_invalid_stack(self, stack, index, program=make("1 call")):
        with self.subTest(stack=stack):
            with self.assertRaises(InvalidStack) as caught:
                run(program, FUNCTIONS, stack)
            self.assertEqual(caught.exception.index, index)
            self.assertIs(type(caught.exception.index), type(index))

    def test_stacks(self):
        for value in ["", "t", *[value for value in make_odd_values() if not isinstance(value, tuple)]]:
            self.assert_invalid_stack(value, None)
        for value in NO_VALUES + list(WRONG_TEXTS):
            self.assert_invalid_stack((value,), 0)
            self.assert_invalid_stack((1, "t", value, value), 2)
        self.assert_invalid_stack((1, make("t")), 1)
        # A word of another vocabulary.
        self.assert_invalid_stack(("t", "z"), 1)

    def test_stacks_are_checked_before_effects(self):
        for text in ("1 call", "call", "t", "f f f f"):
            self.assert_invalid_stack((True,), 0, make(text))

    def test_no_effect(self):
        for text, index in (("1 call", 1), ("t (a-aa) call", 2), ("[ ] [ t call ] call", 1), ("call 1 call", 2)):
            for stack in ((), ("t",), (1, 2, 3)):
                with self.assertRaises(NoEffect) as caught:
                    run(make(text), FUNCTIONS, stack)
                self.assertEqual(caught.exception.index, index)

    def test_higher_order(self):
        for text in ("call", "dip", "curry", "compose", "[ t ] compose", "[ call ]", "[ t ] (ab-ba) call", "choose call", "t (ab-a) call"):
            for stack in ((), ("t",), (1, 2, "t"), ("t", "t", "t")):
                with self.subTest(text=text, stack=stack):
                    self.assertRaises(HigherOrder, run, make(text), FUNCTIONS, stack)
        # Of order 1, with quotations of order 1 on the right.
        self.assertEqual(effect(make("[ [ t ] ]")), "s0 -> s0 [s1 -> s1 [s2 * -> s2 *]]")
        self.assertEqual(run(make("[ [ t ] ]"), FUNCTIONS, ()), ("[ t ]",))

    def test_too_short(self):
        for text, limit in (("t", 1), ("f", 2), ("(abcde-)", 5), ("f f f f", 5), ("(ab-a) t", 2), ("1 f", 1)):
            for length in range(limit):
                for stack in ((1,) * length, ("t",) * length):
                    with self.subTest(text=text, stack=stack):
                        with self.assertRaises(TooShort) as caught:
                            run(make(text), FUNCTIONS, stack)
                        self.assertEqual(caught.exception.limit, limit)

    def test_strings_where_plain_values_are_needed(self):
        for text, stack, index in (
            ("t", ("t",), 0), ("t", (1, "t", ""), 2), ("f", ("t", "t"), 0), ("f", (1, "t"), 1), ("f", ("t", "t", "t"), 1),
            ("choose", ("t", "t", "t"), 0), ("(ab-ba) t", ("", ""), 0), ("(ab-b) t", ("", ""), 1), ("t (ab-b)", ("", ""), 1),
            ("f f", (1, 2, "", ""), 2), ("1 [ (a-a) ] [ t ] choose call", ("t",), 0), ("[ f ] curry", ("t",), 0),
        ):
            self.assert_invalid_stack(stack, index, make(text))
        self.assertEqual(run(make("(ab-b) t"), FUNCTIONS, ("", 1)), (2,))

    def test_nothing_is_called_before_all_is_checked(self):
        recorder = Recorder(WORDS)
        for text, stack in (("h 1 call", ()), ("h (a-) call", ()), ("h f", ()), ("h f", ("t",)), ("h", (None,))):
            with self.assertRaises((NoEffect, HigherOrder, TooShort, InvalidStack)):
                run(make(text), recorder.functions, stack)
        self.assertEqual(recorder.calls, [])


class InterfaceTest(unittest.TestCase):
    def test_run_is_defined_in_its_file(self):
        self.assertEqual(run.__module__, "stackquotes.running")


if __name__ == "__main__":
    unittest.main()
