"""Checks that tell which values are integers and names."""

LETTERS = "abcdefghijklmnopqrstuvwxyz"
LONGEST_NAME = 8
CORE_WORDS = ("call", "dip", "curry", "compose", "choose")


def is_plain_integer(value):
    """Tell whether the value is an integer; True and False are none."""
    return isinstance(value, int) and not isinstance(value, bool)


def is_name(value):
    """Tell whether the value is a string of 1 to 8 lowercase ASCII letters."""
    if not isinstance(value, str) or not 1 <= len(value) <= LONGEST_NAME:
        return False
    # islower and isalpha would let letters outside of ASCII pass.
    return all([letter in LETTERS for letter in value])


def is_free_name(value):
    """Tell whether the value is a name that is not a core word."""
    return is_name(value) and value not in CORE_WORDS
