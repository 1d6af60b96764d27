"""Random programs for tests, the same ones in every run."""

from stackquotes.vocabularies import Vocabulary
from tests import reference

WORDS = Vocabulary(("f", 2, 1), ("g", 1, 2), ("h", 0, 1), ("t", 1, 1), ("z", 1, 0))

SHUFFLES = (
    "(a-aa)", "(ab-ba)", "(a-)", "(a-a)", "(ab-a)", "(ab-aba)", "(abc-bca)", "(-)", "(ab-ab)", "(abc-cab)", "(ab-abab)",
)
NAMES = ("f", "g", "h", "t", "t", "z")
LITERALS = ("0", "1", "2", "-3")
CORE_WORDS = ("call", "call", "dip", "curry", "compose", "choose", "choose")


def quotation(row):
    return " ".join(["[", *row, "]"])


def make_word(random, depth):
    kind = random.random()
    if kind < 0.17:
        return random.choice(NAMES)
    if kind < 0.27:
        return random.choice(LITERALS)
    if kind < 0.52:
        return random.choice(CORE_WORDS)
    if kind < 0.72 and depth > 0:
        return quotation([make_word(random, depth - 1) for place in range(random.randint(0, 3))])
    return random.choice(SHUFFLES)


def make_row(random, length):
    """Return words, of which most rows have no effect."""
    return [make_word(random, 2) for place in range(length)]


def make_row_with_effect(random, length):
    row = []
    for place in range(length):
        for attempt in range(6):
            word = make_word(random, 2)
            if reference.effect(WORDS, " ".join([*row, word])) is not None:
                row.append(word)
                break
    return row


def change_row(random, row):
    """Return a row that often does the same."""
    row = list(row)
    for change in range(random.randint(1, 3)):
        start = random.randint(0, len(row))
        end = random.randint(start, len(row))
        inner = quotation(row[start:end])
        row[start:end] = random.choice((
            [*row[start:end], random.choice(("(a-a)", "(-)", "(ab-ab)"))],
            ["[ ]", "call", *row[start:end]],
            [inner, "call"],
            ["(ab-ba)", "(ab-ba)", *row[start:end]],
            ["h", "[ ]", "[ ]", "choose", "call", *row[start:end]],
            ["h", inner, inner, "choose", "call"],
            row[start + 1:end],
            [*row[start:end], make_word(random, 1)],
        ))
    return row
