"""Libraries: definitions of words, which can only be changed to equivalent ones."""

from stackquotes.comparing import MOST_ORDER, agree
from stackquotes.errors import (
    Busy,
    InvalidDeeds,
    InvalidName,
    InvalidText,
    NameMissing,
    NameTaken,
    NameUsed,
    NotALibrary,
    NotEquivalent,
    NothingToUndo,
    TooManyDefinitions,
)
from stackquotes.inference import is_same_effect, principal_effect
from stackquotes.kinds import is_free_name
from stackquotes.limits import MOST_DEFINITIONS
from stackquotes.programs import Program, check_vocabulary
from stackquotes.words import read_row, row_text, split_tokens

DEFINE = "define"
CHANGE = "change"
DROP = "drop"
DEED_LENGTHS = {"define": 3, "change": 3, "drop": 2}
# A word that any other one can be replaced by without making a text unreadable.
STAND_IN = "(-)"


class Definition:
    """A name, the text that defines it, and the program that this text expands to."""

    def __init__(self, name, text, expansion):
        self.name = name
        self.text = text
        self.expansion = expansion


class Standing:
    """The definitions after a change, in their order, and what stood before the change."""

    def __init__(self, definitions, before):
        self.definitions = definitions
        self.before = before
        self.names = tuple([definition.name for definition in definitions])


def is_readable(tokens, vocabulary, expansions):
    """Tell whether the tokens make up the text of a program in which the names of expansions are words, too."""
    known = [STAND_IN if token in expansions else token for token in tokens]
    return read_row(row_text(known), vocabulary) is not None


def expand_text(vocabulary, definitions, text):
    """Return the program that a text stands for if it may use these definitions."""
    if not isinstance(text, str):
        raise InvalidText(text)
    expansions = {definition.name: definition.expansion.words for definition in definitions}
    tokens = split_tokens(text)
    if not is_readable(tokens, vocabulary, expansions):
        raise InvalidText(text)
    expanded = []
    for token in tokens:
        expanded.extend(expansions.get(token, (token,)))
    return Program(vocabulary, row_text(expanded))


def check_equivalent(definition, expansion):
    """Raise NoEffect or NotEquivalent unless the expansion does the same as that of the definition."""
    found = principal_effect(expansion)
    old = principal_effect(definition.expansion)
    if old.order() > MOST_ORDER or not is_same_effect(found, old) or not agree(expansion, definition.expansion):
        raise NotEquivalent(definition.name)


def is_deed(value):
    """Tell whether the value has the form of a deed, whatever its name and text are."""
    if not isinstance(value, tuple) or len(value) == 0 or not isinstance(value[0], str):
        return False
    return DEED_LENGTHS.get(value[0]) == len(value)


def check_deeds(deeds):
    """Raise InvalidDeeds unless all arguments are deeds."""
    for place, deed in enumerate(deeds):
        if not is_deed(deed):
            raise InvalidDeeds(place)


class Saved:
    """What stood when a block was entered, and the same for the block around it."""

    def __init__(self, standing, outer):
        self.standing = standing
        self.outer = outer


class Trial:
    """A block at whose end a library is as it was at its beginning."""

    def __init__(self, library):
        self.library = library
        self.saved = None

    def __enter__(self):
        self.saved = Saved(self.library.standing, self.saved)
        return self.library

    def __exit__(self, kind, value, trace):
        self.library.standing = self.saved.standing
        self.library.names = self.saved.standing.names
        self.saved = self.saved.outer


class Library:
    """Definitions over a vocabulary, in the order in which they were made."""

    def __init__(self, vocabulary):
        check_vocabulary(vocabulary)
        self.vocabulary = vocabulary
        self.busy = False
        self.standing = Standing((), None)
        self.names = ()

    def check_free(self):
        """Raise Busy in the middle of several changes."""
        if self.busy:
            raise Busy()

    def restore(self, standing):
        """Let this stand, as it did before."""
        self.standing = standing
        self.names = standing.names

    def replace_all(self, definitions):
        """Make a change, after which there are these definitions."""
        self.restore(Standing(tuple(definitions), self.standing))

    def find_place(self, name):
        """Return the place of the definition with this name."""
        if not isinstance(name, str) or name not in self.names:
            raise NameMissing(name)
        return self.names.index(name)

    def expand(self, text):
        """Return the program that a text stands for if every name of a definition is replaced by its expansion."""
        return expand_text(self.vocabulary, self.standing.definitions, text)

    def do_define(self, name, text):
        """Add a definition at the end."""
        if not is_free_name(name) or name in self.vocabulary.names:
            raise InvalidName(name)
        if name in self.names:
            raise NameTaken(name)
        expansion = self.expand(text)
        principal_effect(expansion)
        if len(self.names) >= MOST_DEFINITIONS:
            raise TooManyDefinitions(MOST_DEFINITIONS)
        self.replace_all([*self.standing.definitions, Definition(name, text, expansion)])

    def do_change(self, name, text):
        """Give a definition another text, and all later definitions the expansions that result from it."""
        place = self.find_place(name)
        definitions = self.standing.definitions
        changed = list(definitions[:place])
        expansion = expand_text(self.vocabulary, changed, text)
        check_equivalent(definitions[place], expansion)
        changed.append(Definition(name, text, expansion))
        for later in definitions[place + 1:]:
            expansion = expand_text(self.vocabulary, changed, later.text)
            changed.append(Definition(later.name, later.text, expansion))
        self.replace_all(changed)

    def do_drop(self, name):
        """Remove a definition that no other one uses."""
        place = self.find_place(name)
        if self.users(name):
            raise NameUsed(name)
        definitions = self.standing.definitions
        self.replace_all([*definitions[:place], *definitions[place + 1:]])

    def do_deed(self, deed):
        """Make the change that a deed describes."""
        if deed[0] == DEFINE:
            self.do_define(deed[1], deed[2])
        elif deed[0] == CHANGE:
            self.do_change(deed[1], deed[2])
        else:
            self.do_drop(deed[1])

    def define(self, name, text):
        """Add a definition at the end."""
        self.check_free()
        self.do_define(name, text)

    def change(self, name, text):
        """Give a definition another text that does the same."""
        self.check_free()
        self.do_change(name, text)

    def drop(self, name):
        """Remove a definition that no other one uses."""
        self.check_free()
        self.do_drop(name)

    def change_all(self, *deeds, watch=None):
        """Make several changes, or none of them."""
        self.check_free()
        check_deeds(deeds)
        kept = self.standing
        self.busy = True
        try:
            for place, deed in enumerate(deeds):
                self.do_deed(deed)
                if watch is not None:
                    watch(self, place)
            kept = self.standing
        finally:
            self.standing = kept
            self.names = kept.names
            self.busy = False

    def undo(self):
        """Reverse the last change that stands."""
        self.check_free()
        if self.standing.before is None:
            raise NothingToUndo()
        self.restore(self.standing.before)

    def trial(self):
        """Return a context manager at the end of whose block the library is as it was at its beginning."""
        self.check_free()
        return Trial(self)

    def text_of(self, name):
        """Return the text of a definition."""
        return self.standing.definitions[self.find_place(name)].text

    def users(self, name):
        """Return the names of the definitions in whose texts the name of a definition occurs."""
        self.find_place(name)
        definitions = self.standing.definitions
        return tuple([definition.name for definition in definitions if name in split_tokens(definition.text)])

    def __len__(self):
        return len(self.names)

    def __repr__(self):
        return f"Library({len(self.names)} definitions)"


def check_library(value):
    """Raise NotALibrary unless the value is a library."""
    if not isinstance(value, Library):
        raise NotALibrary(value)


def attempt(library, act):
    """Return what an act on a library returns, and leave the library as it was."""
    check_library(library)
    with library.trial() as held:
        return act(held)
