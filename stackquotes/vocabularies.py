"""Vocabularies: the unknown words, with their inputs and outputs."""

from stackquotes.errors import InvalidEntries, InvalidName, InvalidText
from stackquotes.kinds import is_free_name, is_plain_integer
from stackquotes.limits import MOST_ENTRIES

MOST_ARITY = 3
DIGITS = {"0": 0, "1": 1, "2": 2, "3": 3}


def is_arity(value):
    """Tell whether the value is a possible number of inputs or outputs."""
    return is_plain_integer(value) and 0 <= value <= MOST_ARITY


def is_entry(value):
    """Tell whether the value is a triple that describes an unknown word."""
    if not isinstance(value, tuple) or len(value) != 3:
        return False
    name, inputs, outputs = value
    return is_free_name(name) and is_arity(inputs) and is_arity(outputs)


def check_entries(entries):
    """Raise InvalidEntries unless the entries make up a vocabulary."""
    if len(entries) > MOST_ENTRIES:
        raise InvalidEntries(None)
    taken = set()
    for place, entry in enumerate(entries):
        if not is_entry(entry) or entry[0] in taken:
            raise InvalidEntries(place)
        taken.add(entry[0])


def entry_text(name, arity):
    """Return the text of one entry, as it stands in the text of a vocabulary."""
    inputs, outputs = arity
    return f"{name} {inputs} {outputs}"


def split_entry(text):
    """Return the entry with this text, or None if there is none of this form."""
    fields = text.split(" ")
    if len(fields) != 3:
        return None
    name, inputs, outputs = fields
    # A table instead of int(..), which would also read signs, spaces and underscores.
    if inputs not in DIGITS or outputs not in DIGITS:
        return None
    return (name, DIGITS[inputs], DIGITS[outputs])


def split_entries(text):
    """Return the entries of a text; None stands for each part that is not one."""
    if text == "":
        return []
    return [split_entry(part) for part in text.split(", ")]


class Vocabulary:
    """At most 8 unknown words, each with 0 to 3 inputs and 0 to 3 outputs."""

    def __init__(self, *entries):
        check_entries(entries)
        arities = {name: (inputs, outputs) for name, inputs, outputs in entries}
        self.arities = arities
        self.names = tuple(sorted(arities))
        self.text = ", ".join([entry_text(name, arities[name]) for name in self.names])

    @staticmethod
    def read(text):
        """Return the vocabulary whose text is exactly this one."""
        if not isinstance(text, str):
            raise InvalidText(text)
        entries = split_entries(text)
        try:
            vocabulary = Vocabulary(*entries)
        except InvalidEntries:
            raise InvalidText(text) from None
        # The entries may be valid ones that do not stand in ascending order.
        if vocabulary.text != text:
            raise InvalidText(text)
        return vocabulary

    def arity(self, name):
        """Return the pair of the inputs and the outputs of an unknown word."""
        # Only a string is looked up: other values may have no hash.
        if not isinstance(name, str) or name not in self.arities:
            raise InvalidName(name)
        return self.arities[name]

    def __eq__(self, other):
        return isinstance(other, Vocabulary) and self.text == other.text

    def __len__(self):
        return len(self.names)

    def __str__(self):
        return str(self.text)

    def __repr__(self):
        return f"Vocabulary({self.text})"
