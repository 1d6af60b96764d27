"""Checks claims about programs, with the papers that show them."""

from stackquotes.comparing import agree
from stackquotes.effects import is_first_order_effect, write_effect
from stackquotes.errors import HigherOrder, InvalidText, NoEffect, TooDeep, TooLarge
from stackquotes.inference import common_effect, principal_effect
from stackquotes.kinds import is_plain_integer
from stackquotes.paths import PathMachine, make_inputs, name_inputs
from stackquotes.programs import Program
from stackquotes.vocabularies import Vocabulary

CLAIM_LENGTH = 4
EFFECT = "effect"
NONE = "none"
AGREE = "agree"
DIFFER = "differ"
# The paper of two programs whose effects have no common instance.
EFFECTS = "effects"


def read_program(vocabulary, text):
    """Return the program with this text, or None if the value is not the text of one."""
    try:
        return Program(vocabulary, text)
    except (InvalidText, TooLarge, TooDeep):
        return None


def read_vocabulary(text):
    """Return the vocabulary with this text, or None if the value is not the text of one."""
    try:
        return Vocabulary.read(text)
    except InvalidText:
        return None


def shows_effect(program, text):
    """Tell whether this is the text of the principal effect of the program."""
    try:
        found = principal_effect(program)
    except NoEffect:
        return False
    # Nothing longer than the text that is claimed needs to be written.
    return write_effect(found, len(text)) == text


def shows_none(program, index):
    """Tell whether the program has no effect from this place on."""
    try:
        principal_effect(program)
    except NoEffect as error:
        return error.index == index
    return False


def shows_agreement(program, other_program):
    """Tell whether both programs agree, as far as that can be decided."""
    try:
        return agree(program, other_program)
    except (NoEffect, HigherOrder):
        return False


def leads_to_difference(common, program, other_program, answers):
    """Tell whether these are the answers of all tests on a path on which both programs leave different stacks."""
    machine = PathMachine(common.shapes)
    machine.begin_path(answers)
    stack = make_inputs(machine.store, name_inputs(common))
    left = machine.leave(program.row, stack)
    other_left = machine.leave(other_program.row, stack)
    return len(machine.asked) == len(answers) and left != other_left


def shows_difference(program, other_program, paper):
    """Tell whether the paper shows that both programs do not agree."""
    try:
        found, other_found = principal_effect(program), principal_effect(other_program)
    except NoEffect:
        return False
    common = common_effect(program, other_program)
    if common is None:
        return isinstance(paper, str) and paper == EFFECTS
    if not is_first_order_effect(found) or not is_first_order_effect(other_found):
        return False
    if not isinstance(paper, tuple) or not all([isinstance(answer, bool) for answer in paper]):
        return False
    return leads_to_difference(common, program, other_program, list(paper))


def is_empty_paper(paper):
    """Tell whether the paper is the empty tuple."""
    return isinstance(paper, tuple) and len(paper) == 0


def shows_statement(kind, program, told, paper):
    """Tell whether the paper shows a claim about one program: its effect, or the place from which on it has none."""
    if not is_empty_paper(paper):
        return False
    if kind == EFFECT:
        return isinstance(told, str) and shows_effect(program, told)
    return is_plain_integer(told) and shows_none(program, told)


def shows_comparison(kind, program, other_program, paper):
    """Tell whether the paper shows a claim about two programs: that they agree, or that they do not."""
    if kind == DIFFER:
        return shows_difference(program, other_program, paper)
    return is_empty_paper(paper) and shows_agreement(program, other_program)


def holds(claim, paper):
    """Tell whether the paper shows the claim."""
    if not isinstance(claim, tuple) or len(claim) != CLAIM_LENGTH:
        return False
    kind, vocabulary_text, text, told = claim
    if not isinstance(kind, str) or kind not in (EFFECT, NONE, AGREE, DIFFER):
        return False
    vocabulary = read_vocabulary(vocabulary_text)
    program = None if vocabulary is None else read_program(vocabulary, text)
    if program is None:
        return False
    if kind in (EFFECT, NONE):
        return shows_statement(kind, program, told, paper)
    other_program = read_program(vocabulary, told)
    return other_program is not None and shows_comparison(kind, program, other_program, paper)
