"""Tables of the cases of a program and of the definitions of a library."""

from stackquotes.cases import cases
from stackquotes.effects import effect
from stackquotes.libraries import check_library


def write_test(term, answer):
    """Return the text of a test with its answer."""
    return f"if {term}" if answer else f"unless {term}"


def write_line(tests, outputs):
    """Return the line of a case."""
    condition = ", ".join([write_test(term, answer) for term, answer in tests]) if tests else "always"
    return " ".join([f"{condition}:", *outputs])


def case_table(program):
    """Return a text with one line for each case of a first-order program."""
    return "\n".join([write_line(tests, outputs) for tests, outputs in cases(program)])


def word_table(library):
    """Return a text with one line for each definition of a library: its name and its effect."""
    check_library(library)
    return "\n".join([f"{name}: {effect(library.expand(name))}" for name in library.names])
