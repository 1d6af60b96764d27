"""A vocabulary and a program to try things out with."""

from stackquotes.programs import Program
from stackquotes.vocabularies import Vocabulary


def sample_vocabulary():
    """Return a vocabulary of four unknown words."""
    return Vocabulary(("f", 2, 1), ("g", 1, 2), ("h", 0, 1), ("t", 1, 1))


def sample_program():
    """Return a program that chooses between two quotations and calls the chosen one."""
    return Program(sample_vocabulary(), "(a-aa) t [ f ] [ (ab-b) ] choose call")
