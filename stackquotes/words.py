"""Words: how they are spelled, and how the text of a program is read.

A word is a triple of its kind, its text and what else is known of it: the integer of a literal; for a shuffle, how
many values it takes and the places, among these, of the values that it leaves; the inputs and outputs of an unknown
word; the row of words of a quotation. A core word has None there. A row is a tuple of words.
"""

from stackquotes.kinds import CORE_WORDS, LETTERS

LITERAL = "literal"
SHUFFLE = "shuffle"
CORE = "core"
UNKNOWN = "unknown"
QUOTATION = "quotation"

FIGURES = "0123456789"
MOST_FIGURES = 18
MOST_TAKEN = 5
MOST_LEFT = 8


def is_literal(token):
    """Tell whether the token is an integer as a program writes it."""
    figures = token[1:] if token.startswith("-") else token
    if not 1 <= len(figures) <= MOST_FIGURES:
        return False
    # isdigit and int(..) would let figures outside of ASCII pass.
    if not all([figure in FIGURES for figure in figures]):
        return False
    return token == "0" or not figures.startswith("0")


def split_shuffle(token):
    """Return the letters before and after the dash of a shuffle, or None if the token is not a shuffle."""
    if not token.startswith("(") or not token.endswith(")"):
        return None
    taken, dash, left = token[1:-1].partition("-")
    if dash == "" or len(taken) > MOST_TAKEN or len(left) > MOST_LEFT:
        return None
    if len(set(taken)) < len(taken) or not all([letter in LETTERS for letter in taken]):
        return None
    if not all([letter in taken for letter in left]):
        return None
    return (taken, left)


def read_word(token, vocabulary):
    """Return the word with this text, or None; quotations consist of several tokens and are not read here."""
    if token in CORE_WORDS:
        return (CORE, token, None)
    if token in vocabulary.names:
        return (UNKNOWN, token, vocabulary.arity(token))
    if is_literal(token):
        return (LITERAL, token, int(token))
    letters = split_shuffle(token)
    if letters is None:
        return None
    taken, left = letters
    return (SHUFFLE, token, (len(taken), tuple([taken.index(letter) for letter in left])))


def row_text(texts):
    """Return the text of a row whose words have these texts."""
    return " ".join(texts)


def quotation_text(text):
    """Return the text of the quotation of the program with this text."""
    return f"[ {text} ]" if text else "[ ]"


def quote(row):
    """Return the word that is the quotation of the row."""
    return (QUOTATION, quotation_text(row_text([word[1] for word in row])), row)


def split_tokens(text):
    """Return the parts of a text between its single spaces; an empty text has none."""
    return text.split(" ") if text else []


def read_row(text, vocabulary):
    """Return the row with this text, or None if there is none; size and nesting are not limited here."""
    # The rows that are begun: the program itself, and the quotations around the present token.
    begun = [[]]
    for token in split_tokens(text):
        if token == "[":
            begun.append([])
            continue
        if token == "]":
            word = quote(tuple(begun.pop())) if len(begun) > 1 else None
        else:
            word = read_word(token, vocabulary)
        if word is None:
            return None
        begun[-1].append(word)
    return tuple(begun[0]) if len(begun) == 1 else None


def measure_size(text):
    """Return how many words the program with this text has, those inside its quotations included."""
    tokens = split_tokens(text)
    # Every word but a quotation is one token, and a quotation has one bracket of each kind.
    return len(tokens) - tokens.count("]")


def measure_depth(text):
    """Return how deep the quotations of the program with this text are nested."""
    depth = deepest = 0
    for token in split_tokens(text):
        if token == "[":
            depth += 1
            deepest = max(deepest, depth)
        elif token == "]":
            depth -= 1
    return deepest
