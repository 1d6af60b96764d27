"""Searches for the shortest program that does the same as another one."""

from stackquotes.comparing import MOST_ORDER, agree
from stackquotes.errors import HigherOrder, InvalidText, InvalidWords, NoEffect, TooDeep, TooLarge
from stackquotes.inference import principal_effect
from stackquotes.limits import MOST_SEARCHED
from stackquotes.programs import Program, check_program

MOST_WORDS = 5


def read_single(vocabulary, text):
    """Return the program with this text if it is one of exactly one word, otherwise None."""
    try:
        single = Program(vocabulary, text)
    except (InvalidText, TooLarge, TooDeep):
        return None
    return single if len(single) == 1 else None


def read_singles(vocabulary, words):
    """Return a list of the programs of one word each with these texts; raise InvalidWords if there is another text."""
    if not isinstance(words, tuple) or not 1 <= len(words) <= MOST_WORDS:
        raise InvalidWords(None)
    singles = []
    for place, text in enumerate(words):
        single = read_single(vocabulary, text)
        if single is None:
            raise InvalidWords(place)
        singles.append(single)
    return singles


def add_word(candidate, single):
    """Return the candidate followed by one more word, or None if it becomes too large or has no effect."""
    try:
        longer = candidate.then(single)
        principal_effect(longer)
    except (TooLarge, NoEffect):
        return None
    return longer


def add_words(candidates, singles):
    """Return a list of the candidates with one more word, in the order of their rows of places."""
    # What begins with words that are too large or have no effect is so itself: nothing is lost on the way.
    longer = [add_word(candidate, single) for candidate in candidates for single in singles]
    return [candidate for candidate in longer if candidate is not None]


def is_match(program, candidate):
    """Tell whether a candidate agrees with the program, as far as that can be decided."""
    try:
        return agree(program, candidate)
    except HigherOrder:
        return False


def shortest(program, words):
    """Return the shortest program of these words that agrees with the program, or None."""
    check_program(program)
    found = principal_effect(program)
    singles = read_singles(program.vocabulary, words)
    if found.order() > MOST_ORDER:
        raise HigherOrder()
    candidates = [Program(program.vocabulary, "")]
    for length in range(MOST_SEARCHED + 1):
        for candidate in candidates:
            if is_match(program, candidate):
                return candidate
        candidates = add_words(candidates, singles)
    return None
