"""Programs whose effects have texts around the limit."""


def make_copies(shuffle, literals):
    """Return the text of a program that leaves many copies of a quotation, and literals."""
    return "[ ] " + "(a-aaaaaaaa) " * 25 + shuffle + " 1" * literals


# The texts of the effects have exactly this many characters.
TEXT_2000 = make_copies("(a-aaaaa)", 6)
TEXT_2001 = make_copies("(a-aaaaaa)", 1)
# These are far too long to be written.
ENDLESS = " ".join(["(a-aa) [ ] curry curry"] * 14)
EFFECT_2000 = "s0 -> s0" + " [s1 -> s1]" * 180 + " *" * 6
EFFECT_2001 = "s0 -> s0" + " [s1 -> s1]" * 181 + " *"
