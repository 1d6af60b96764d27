"""The errors that the package raises.

Each class stores its argument itself, because the bases store nothing.
"""


class InputError(ValueError):
    """An argument is not what the document describes."""


class NotAVocabulary(InputError):
    """The value is not a Vocabulary."""

    def __init__(self, value):
        self.value = value


class NotAProgram(InputError):
    """The value is not a Program."""

    def __init__(self, value):
        self.value = value


class NotALibrary(InputError):
    """The value is not a Library."""

    def __init__(self, value):
        self.value = value


class InvalidText(InputError):
    """The value is not a text of the kind that is read."""

    def __init__(self, value):
        self.value = value


class InvalidPlace(InputError):
    """The value is not a place in the program."""

    def __init__(self, value):
        self.value = value


class InvalidFunctions(InputError):
    """The value is not a dict with exactly the names of the vocabulary."""

    def __init__(self, value):
        self.value = value


class InvalidResult(InputError):
    """A function returned this value instead of a tuple of its outputs."""

    def __init__(self, value):
        self.value = value


class InvalidName(InputError):
    """The value is not a name that can be used here."""

    def __init__(self, value):
        self.value = value


class InvalidRow(InputError):
    """The value is not a row that the console understands."""

    def __init__(self, value):
        self.value = value


class InvalidEntries(InputError):
    """The entry at the index does not fit into a vocabulary."""

    def __init__(self, index):
        self.index = index


class InvalidStack(InputError):
    """The value at the index does not fit on the stack."""

    def __init__(self, index):
        self.index = index


class InvalidWords(InputError):
    """The text at the index is not that of one word."""

    def __init__(self, index):
        self.index = index


class InvalidDeeds(InputError):
    """The argument at the index is not a deed."""

    def __init__(self, index):
        self.index = index


class ProgramError(TypeError):
    """A program does not fit the call."""


class NoEffect(ProgramError):
    """The program up to and including the word at the index has no effect."""

    def __init__(self, index):
        self.index = index


class Mismatch(ProgramError):
    """Two programs have different vocabularies."""


class HigherOrder(ProgramError):
    """The order of an effect is too high for the call."""


class LibraryError(LookupError):
    """A library refuses a change."""


class NameTaken(LibraryError):
    """There is already a definition with the name."""

    def __init__(self, value):
        self.value = value


class NameMissing(LibraryError):
    """There is no definition with the name."""

    def __init__(self, value):
        self.value = value


class NameUsed(LibraryError):
    """Another definition uses the definition with the name."""

    def __init__(self, value):
        self.value = value


class NotEquivalent(LibraryError):
    """The new text of the definition does not do the same as the old one."""

    def __init__(self, value):
        self.value = value


class NothingToUndo(LibraryError):
    """No change stands that could be reversed."""


class Busy(LibraryError):
    """The library is in the middle of several changes."""


class SizeError(ArithmeticError):
    """Something exceeds a limit or falls short of it."""


class TooLarge(SizeError):
    """A program has more words than the limit."""

    def __init__(self, limit):
        self.limit = limit


class TooDeep(SizeError):
    """Quotations are nested deeper than the limit."""

    def __init__(self, limit):
        self.limit = limit


class TooLong(SizeError):
    """A text has more characters than the limit."""

    def __init__(self, limit):
        self.limit = limit


class TooManyCases(SizeError):
    """A program has more cases than the limit."""

    def __init__(self, limit):
        self.limit = limit


class TooManyDefinitions(SizeError):
    """A library has no room for a definition beyond the limit."""

    def __init__(self, limit):
        self.limit = limit


class TooShort(SizeError):
    """A stack has fewer values than the limit."""

    def __init__(self, limit):
        self.limit = limit
