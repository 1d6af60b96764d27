"""Programs: rows of words over a vocabulary."""

from stackquotes.errors import (
    InvalidPlace,
    InvalidText,
    Mismatch,
    NotAProgram,
    NotAVocabulary,
    TooDeep,
    TooLarge,
)
from stackquotes.kinds import is_plain_integer
from stackquotes.limits import MOST_NESTED, MOST_SIZE
from stackquotes.vocabularies import Vocabulary
from stackquotes.words import measure_depth, measure_size, quotation_text, read_row, row_text


def check_vocabulary(value):
    """Raise NotAVocabulary unless the value is a vocabulary."""
    if not isinstance(value, Vocabulary):
        raise NotAVocabulary(value)


def check_program(value):
    """Raise NotAProgram unless the value is a program."""
    if not isinstance(value, Program):
        raise NotAProgram(value)


def check_both_programs(program, other_program):
    """Raise NotAProgram or Mismatch unless both are programs with the same vocabulary."""
    check_program(program)
    check_program(other_program)
    if program.vocabulary != other_program.vocabulary:
        raise Mismatch()


def check_place(value, least, most):
    """Raise InvalidPlace unless the value is an integer between these two, or one of them."""
    if not is_plain_integer(value) or not least <= value <= most:
        raise InvalidPlace(value)


def check_limits(size, depth):
    """Raise TooLarge or TooDeep if a program with this size and this nesting exceeds a limit."""
    if size > MOST_SIZE:
        raise TooLarge(MOST_SIZE)
    if depth > MOST_NESTED:
        raise TooDeep(MOST_NESTED)


class Program:
    """A row of words over a vocabulary, within the limits of size and nesting."""

    def __init__(self, vocabulary, text):
        check_vocabulary(vocabulary)
        row = read_row(text, vocabulary) if isinstance(text, str) else None
        if row is None:
            raise InvalidText(text)
        size = measure_size(text)
        check_limits(size, measure_depth(text))
        self.vocabulary = vocabulary
        self.text = text
        self.row = row
        self.words = tuple([word[1] for word in row])
        self.size = size

    def then(self, other_program):
        """Return the program of the words of both, the own words first."""
        check_both_programs(self, other_program)
        return Program(self.vocabulary, row_text(self.words + other_program.words))

    def part(self, start, end):
        """Return the program of the words from one place to the place before another."""
        check_place(start, 0, len(self.words))
        check_place(end, start, len(self.words))
        return Program(self.vocabulary, row_text(self.words[start:end]))

    def without(self, place):
        """Return the program without the word at the place."""
        check_place(place, 0, len(self.words) - 1)
        return Program(self.vocabulary, row_text(self.words[:place] + self.words[place + 1:]))

    def quoted(self):
        """Return the program that consists of the quotation of this program."""
        return Program(self.vocabulary, quotation_text(self.text))

    def __eq__(self, other):
        return isinstance(other, Program) and self.vocabulary == other.vocabulary and self.text == other.text

    def __len__(self):
        return len(self.words)

    def __str__(self):
        return str(self.text)

    def __repr__(self):
        return f"Program({self.text})"
