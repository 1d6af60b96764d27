"""Makes certificates: true claims about programs, each with the paper that shows it."""

from stackquotes.cases import first_difference
from stackquotes.checker import AGREE, DIFFER, EFFECT, EFFECTS, NONE
from stackquotes.comparing import agree
from stackquotes.effects import effect
from stackquotes.errors import NoEffect


def make_claim(kind, program, told):
    """Return a claim about a program."""
    return (kind, str(program.vocabulary), program.text, told)


def certify_effect(program):
    """Return a certificate of the effect of a program, or of its having none."""
    try:
        return (make_claim(EFFECT, program, effect(program)), ())
    except NoEffect as error:
        return (make_claim(NONE, program, error.index), ())


def certify_agreement(program, other_program):
    """Return a certificate that two programs agree, or None if they do not."""
    if not agree(program, other_program):
        return None
    return (make_claim(AGREE, program, other_program.text), ())


def certify_difference(program, other_program):
    """Return a certificate that two first-order programs do not agree, or None if they do."""
    difference = first_difference(program, other_program)
    if difference is None:
        return None
    claim = make_claim(DIFFER, program, other_program.text)
    if difference == ():
        return (claim, EFFECTS)
    return (claim, tuple([answer for term, answer in difference[0]]))
