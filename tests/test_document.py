"""The examples of the document, as they stand there."""

import doctest
import unittest

EXAMPLES = {
    "programs": """
>>> from stackquotes.programs import Program
>>> from stackquotes.vocabularies import Vocabulary
>>> words = Vocabulary(("g", 0, 2), ("f", 2, 1))
>>> program = Program(words, "(a-aa) [ f -7 ] dip")
>>> [str(words), program.words, program.size, program.part(1, 3).text, program.without(0).then(program.part(0, 1)).text, program.part(0, 1).quoted().text, repr(Program(words, ""))]
['f 2 1, g 0 2', ('(a-aa)', '[ f -7 ]', 'dip'), 5, '[ f -7 ] dip', '[ f -7 ] dip (a-aa)', '[ (a-aa) ]', 'Program()']
""",
    "effects": """
>>> from stackquotes.effects import effect, fit, is_first_order, reach
>>> from stackquotes.programs import Program
>>> from stackquotes.samples import sample_program, sample_vocabulary
>>> words = sample_vocabulary()
>>> [effect(sample_program()), reach(sample_program()), is_first_order(sample_program())]
['s0 * * -> s0 *', (2, 1), True]
>>> [effect(Program(words, "")), effect(Program(words, "call")), effect(Program(words, "curry"))]
['s0 -> s0', 's0 [s0 -> s1] -> s1', 's0 a0 [s1 a0 -> s2] -> s0 [s1 -> s2]']
>>> [effect(Program(words, "[ (a-aa) ]")), effect(Program(words, "(ab-b) dip")), effect(Program(words, "[ t ] compose call"))]
['s0 -> s0 [s1 a0 -> s1 a0 a0]', 's0 a0 a1 [s0 -> s1] -> s1 a0', 's0 [s0 -> s1 *] -> s1 *']
>>> fit(Program(words, "(ab-ba)"), Program(words, "(ab-b)"))
False
""",
    "comparing": """
>>> from stackquotes.comparing import agree, commute, idle_words, undoes
>>> from stackquotes.programs import Program
>>> from stackquotes.samples import sample_vocabulary
>>> words = sample_vocabulary()
>>> pairs = (("t (a-aa) [ t ] [ ] choose call", "t t"), ("[ t ] curry", "t [ ] curry"), ("[ h ] compose", "[ call h ] curry"))
>>> [agree(Program(words, pairs[0][0]), Program(words, pairs[0][1])), agree(Program(words, pairs[1][0]), Program(words, pairs[1][1])), agree(Program(words, pairs[2][0]), Program(words, pairs[2][1]))]
[False, True, True]
>>> [idle_words(Program(words, "(ab-ab) t [ ] (a-a) call")), commute(Program(words, "t"), Program(words, "[ t ] dip")), undoes(Program(words, "(abc-cab)"), Program(words, "(abc-bca)"))]
[(0, 3), True, True]
""",
    "cases": """
>>> from stackquotes.cases import cases, first_difference, unneeded
>>> from stackquotes.programs import Program
>>> from stackquotes.samples import sample_program, sample_vocabulary
>>> words = sample_vocabulary()
>>> cases(sample_program())
(((('t(x0)', True),), ('f(x1,x0)',)), ((('t(x0)', False),), ('x0',)))
>>> first_difference(Program(words, "t (a-aa) 1 2 choose"), Program(words, "t (a-aa) 1 3 choose"))
((('t(x0)', False),), 0, ('2', '3'))
>>> [cases(Program(words, "(ab-ba) g (ab-a)")), unneeded(Program(words, "(abc-cc) f")), first_difference(Program(words, "(a-)"), Program(words, "(a-aa)"))]
[(((), ('x0', 'g.0(x1)')),), (1, 2), ()]
""",
    "running": """
>>> from stackquotes.programs import Program
>>> from stackquotes.running import run
>>> from stackquotes.vocabularies import Vocabulary
>>> words = Vocabulary(("divmod", 2, 2))
>>> program = Program(words, "divmod [ 5 divmod ] dip (ab-ba) [ divmod ] curry")
>>> run(program, {"divmod": divmod}, (7, "(a-aa)", 47, 6))
(7, '(a-aa)', 1, 5, '2 divmod')
""",
    "searching": """
>>> from stackquotes.programs import Program
>>> from stackquotes.samples import sample_vocabulary
>>> from stackquotes.searching import shortest
>>> goal = Program(sample_vocabulary(), "(abc-cab)")
>>> [shortest(goal, ("(ab-ba)", "[ (ab-ba) ]", "dip")).text, shortest(goal, ("(ab-ba)",))]
['(ab-ba) [ (ab-ba) ] dip', None]
""",
    "libraries": """
>>> from stackquotes.libraries import Library
>>> from stackquotes.samples import sample_vocabulary
>>> library = Library(sample_vocabulary())
>>> library.change_all(("define", "dup", "(a-aa)"), ("define", "twice", "dup compose call"))
>>> library.change("twice", "(a-aa) compose call")
>>> [library.expand("[ t ] twice").text, library.names, library.users("dup"), library.undo(), library.users("dup"), len(library), repr(library)]
['[ t ] (a-aa) compose call', ('dup', 'twice'), (), None, ('twice',), 2, 'Library(2 definitions)']
""",
    "certificates": """
>>> from stackquotes.certificates import certify_agreement, certify_difference, certify_effect
>>> from stackquotes.checker import holds
>>> from stackquotes.programs import Program
>>> from stackquotes.samples import sample_vocabulary
>>> words = sample_vocabulary()
>>> one, two = Program(words, "(a-aa) call"), Program(words, "t")
>>> [certify_effect(one), certify_difference(two, Program(words, "(a-aa) choose")), certify_agreement(two, Program(words, "t [ ] call"))]
[(('none', 'f 2 1, g 1 2, h 0 1, t 1 1', '(a-aa) call', 1), ()), (('differ', 'f 2 1, g 1 2, h 0 1, t 1 1', 't', '(a-aa) choose'), 'effects'), (('agree', 'f 2 1, g 1 2, h 0 1, t 1 1', 't', 't [ ] call'), ())]
>>> holds(("differ", str(words), "t 1 2 choose", "t 2 1 choose"), (True,))
True
""",
    "reports": """
>>> from stackquotes.reports import case_table
>>> from stackquotes.samples import sample_program
>>> case_table(sample_program()).split("\\n")
['if t(x0): f(x1,x0)', 'unless t(x0): x0']
""",
    "console": """
>>> from stackquotes.console import Console
>>> from stackquotes.samples import sample_vocabulary
>>> console = Console(sample_vocabulary())
>>> [console.say("define dup (a-aa)"), console.say("effect dup f"), console.say("same dup (a-) ; "), console.say("change dup (a-a)"), console.say("effect dup call"), console.say("undo"), console.say("undo")]
['ok', 's0 * -> s0 *', 'same', 'refused', 'none 1', 'ok', 'refused']
""",
}


class ExamplesTest(unittest.TestCase):
    def test_examples(self):
        for name, text in EXAMPLES.items():
            with self.subTest(name=name):
                test = doctest.DocTestParser().get_doctest(text, {}, name, None, None)
                result = doctest.DocTestRunner().run(test)
                self.assertGreater(result.attempted, 0)
                self.assertEqual(result.failed, 0)


if __name__ == "__main__":
    unittest.main()
