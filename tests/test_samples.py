import unittest

from stackquotes import samples
from stackquotes.programs import Program
from stackquotes.vocabularies import Vocabulary


class SamplesTest(unittest.TestCase):
    def test_the_vocabulary(self):
        words = samples.sample_vocabulary()
        self.assertIs(type(words), Vocabulary)
        self.assertEqual(str(words), "f 2 1, g 1 2, h 0 1, t 1 1")

    def test_the_program(self):
        program = samples.sample_program()
        self.assertIs(type(program), Program)
        self.assertEqual(program.text, "(a-aa) t [ f ] [ (ab-b) ] choose call")
        self.assertEqual(program.vocabulary, samples.sample_vocabulary())

    def test_repeated_calls_return_the_same(self):
        self.assertEqual(samples.sample_vocabulary(), samples.sample_vocabulary())
        self.assertEqual(samples.sample_program(), samples.sample_program())

    def test_both_are_defined_in_their_file(self):
        for made in (samples.sample_vocabulary, samples.sample_program):
            self.assertEqual(made.__module__, "stackquotes.samples")


if __name__ == "__main__":
    unittest.main()
