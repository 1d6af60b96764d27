"""A console that answers rows with a library."""

from stackquotes.comparing import agree
from stackquotes.effects import effect
from stackquotes.errors import (
    HigherOrder,
    InputError,
    InvalidRow,
    InvalidText,
    LibraryError,
    NoEffect,
    ProgramError,
    SizeError,
    TooDeep,
    TooLarge,
    TooLong,
)
from stackquotes.libraries import CHANGE, DEFINE, DROP, Library

UNDO = "undo"
EFFECT = "effect"
SAME = "same"
SPACE = " "
BETWEEN = " ; "
DONE = "ok"
REFUSED = "refused"


def tell_effect(program):
    """Return the answer that tells the effect of a program."""
    try:
        return effect(program)
    except NoEffect as error:
        return f"none {error.index}"
    except TooLong:
        return "long"


def tell_agreement(program, other_program):
    """Return the answer that tells whether two programs agree."""
    try:
        return "same" if agree(program, other_program) else "different"
    except NoEffect:
        return "none"
    except HigherOrder:
        return "open"


class Console:
    """Answers rows of text; what the rows define is kept in a library."""

    def __init__(self, vocabulary):
        self.library = Library(vocabulary)

    def say(self, row):
        """Return the answer to a row."""
        answer = self.find_answer(row) if isinstance(row, str) else None
        if answer is None:
            raise InvalidRow(row)
        return answer

    def find_answer(self, row):
        """Return the answer to a row, or None if the row has none of the forms."""
        word, space, rest = row.partition(SPACE)
        if row == UNDO:
            return self.answer_undo()
        if word in (DEFINE, CHANGE, DROP):
            return self.answer_deed(word, rest)
        # Without the space there is no place for a program, not even for the empty one.
        if space == "":
            return None
        if word == EFFECT:
            return self.answer_effect(rest)
        return self.answer_same(rest) if word == SAME else None

    def answer_undo(self):
        """Answer the row that reverses the last change."""
        try:
            self.library.undo()
        except LibraryError:
            return REFUSED
        return DONE

    def answer_deed(self, word, rest):
        """Answer a row that changes a definition; return None if the rest is not of the form."""
        name, space, text = rest.partition(SPACE)
        if name == "" or (word == DROP and space):
            return None
        deed = (DROP, name) if word == DROP else (word, name, text)
        try:
            self.library.change_all(deed)
        except (InputError, ProgramError, LibraryError, SizeError):
            return REFUSED
        return DONE

    def find_program(self, text):
        """Return the program that a text stands for, or None."""
        try:
            return self.library.expand(text)
        except (InvalidText, TooLarge, TooDeep):
            return None

    def answer_effect(self, text):
        """Answer the row that asks for the effect of a program; return None if there is no program."""
        program = self.find_program(text)
        return None if program is None else tell_effect(program)

    def answer_same(self, rest):
        """Answer the row that compares two programs; return None if there are no two programs."""
        text, between, other_text = rest.partition(BETWEEN)
        program, other_program = self.find_program(text), self.find_program(other_text)
        if between == "" or program is None or other_program is None:
            return None
        return tell_agreement(program, other_program)
