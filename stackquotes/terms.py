"""Writes terms."""

from stackquotes.errors import TooLong
from stackquotes.limits import MOST_TEXT
from stackquotes.store import INTEGER


class TermTexts:
    """The texts of the terms of a store. None stands for a text that exceeds the limit: it may be far too long."""

    def __init__(self, store, vocabulary):
        self.store = store
        self.vocabulary = vocabulary
        self.texts = {}

    def name_head(self, head):
        """Return the name of a function; its number is only written if its word has several outputs."""
        name, point, number = head.partition(".")
        inputs, outputs = self.vocabulary.arity(name)
        return name if outputs == 1 else head

    def make_text(self, term):
        """Return the text of a term whose arguments have texts already."""
        kind, head, *arguments = self.store.nodes[term]
        if kind == INTEGER:
            return str(head)
        # Only the heads of inputs are names alone.
        if "." not in head:
            return head
        inner = [self.texts[argument] for argument in arguments]
        if None in inner:
            return None
        joined = ",".join(inner)
        text = f"{self.name_head(head)}({joined})"
        return text if len(text) <= MOST_TEXT else None

    def find_text(self, term):
        """Return the text of a term, or None."""
        pending = [term]
        while pending:
            inner = pending[-1]
            missing = [part for part in self.store.nodes[inner][2:] if part not in self.texts]
            if missing:
                pending.extend(missing)
            else:
                self.texts[inner] = self.make_text(inner)
                pending.pop()
        return self.texts[term]

    def write(self, term):
        """Return the text of a term; raise TooLong if it exceeds the limit."""
        text = self.find_text(term)
        if text is None:
            raise TooLong(MOST_TEXT)
        return text
