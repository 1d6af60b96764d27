"""The examples of the document, as they stand there."""

import doctest
import unittest

EXAMPLES = {
    "programs": """
>>> from stackquotes.programs import Program
>>> from stackquotes.vocabularies import Vocabulary
>>> words = Vocabulary(("g", 0, 2), ("f", 2, 1))
>>> program = Program(words, "(a-aa) [ f -7 ] dip")
>>> [str(words), program.words, program.size, program.part(1, 3).text, program.without(0).then(program.part(0, 1)).text, program.part(0, 1).quoted().text, repr(Program(words, ""))]
['f 2 1, g 0 2', ('(a-aa)', '[ f -7 ]', 'dip'), 5, '[ f -7 ] dip', '[ f -7 ] dip (a-aa)', '[ (a-aa) ]', 'Program()']
""",
    "effects": """
>>> from stackquotes.effects import effect, fit, is_first_order, reach
>>> from stackquotes.programs import Program
>>> from stackquotes.samples import sample_program, sample_vocabulary
>>> words = sample_vocabulary()
>>> [effect(sample_program()), reach(sample_program()), is_first_order(sample_program())]
['s0 * * -> s0 *', (2, 1), True]
>>> [effect(Program(words, "")), effect(Program(words, "call")), effect(Program(words, "curry"))]
['s0 -> s0', 's0 [s0 -> s1] -> s1', 's0 a0 [s1 a0 -> s2] -> s0 [s1 -> s2]']
>>> [effect(Program(words, "[ (a-aa) ]")), effect(Program(words, "(ab-b) dip")), effect(Program(words, "[ t ] compose call"))]
['s0 -> s0 [s1 a0 -> s1 a0 a0]', 's0 a0 a1 [s0 -> s1] -> s1 a0', 's0 [s0 -> s1 *] -> s1 *']
>>> fit(Program(words, "(ab-ba)"), Program(words, "(ab-b)"))
False
""",
    "comparing": """
>>> from stackquotes.comparing import agree, commute, idle_words, undoes
>>> from stackquotes.programs import Program
>>> from stackquotes.samples import sample_vocabulary
>>> words = sample_vocabulary()
>>> pairs = (("t (a-aa) [ t ] [ ] choose call", "t t"), ("[ t ] curry", "t [ ] curry"), ("[ h ] compose", "[ call h ] curry"))
>>> [agree(Program(words, pairs[0][0]), Program(words, pairs[0][1])), agree(Program(words, pairs[1][0]), Program(words, pairs[1][1])), agree(Program(words, pairs[2][0]), Program(words, pairs[2][1]))]
[False, True, True]
>>> [idle_words(Program(words, "(ab-ab) t [ ] (a-a) call")), commute(Program(words, "t"), Program(words, "[ t ] dip")), undoes(Program(words, "(abc-cab)"), Program(words, "(abc-bca)"))]
[(0, 3), True, True]
""",
}


class ExamplesTest(unittest.TestCase):
    def test_examples(self):
        for name, text in EXAMPLES.items():
            with self.subTest(name=name):
                test = doctest.DocTestParser().get_doctest(text, {}, name, None, None)
                result = doctest.DocTestRunner().run(test)
                self.assertGreater(result.attempted, 0)
                self.assertEqual(result.failed, 0)


if __name__ == "__main__":
    unittest.main()
