"""Decides whether programs do the same on every stack and in every world."""

from stackquotes.errors import HigherOrder, NoEffect
from stackquotes.inference import common_effect, principal_effect
from stackquotes.machine import Machine
from stackquotes.programs import Program, check_both_programs, check_program
from stackquotes.shapes import QUOTATION
from stackquotes.worlds import Search

MOST_ORDER = 2


def match_stacks(machine, stack_shape, one, other):
    """Return a list of triples: a shape of a stack shape, and the values that two stacks have in its place."""
    below, shapes = machine.shapes.spread(stack_shape)
    bottom, values = machine.store.take_all(one)
    other_bottom, other_values = machine.store.take_all(other)
    return list(zip([below, *shapes], [bottom, *values], [other_bottom, *other_values]))


def pair_terms(machine, stack_shape, one, other):
    """Return a list of pairs of terms that are the same just if two stacks with this stack shape are."""
    pairs = {}
    matched = {}
    pending = match_stacks(machine, stack_shape, one, other)
    while pending:
        shape, value, other_value = pending.pop()
        if value == other_value or (shape, value, other_value) in matched:
            continue
        matched[(shape, value, other_value)] = True
        if machine.shapes.kind_of(shape) != QUOTATION:
            pairs[(value, other_value)] = True
            continue
        # Two quotations are the same if they leave the same on a stack of which nothing else is known.
        before, after = machine.shapes.parts_of(shape)
        stack = machine.assume_stack(before)
        left, other_left = machine.call(value, stack), machine.call(other_value, stack)
        pending.extend(match_stacks(machine, after, left, other_left))
    return list(pairs)


def is_always_same(common, program, other_program):
    """Tell whether both programs leave the same on all stacks that a common instance of their effects describes."""
    machine = Machine(common.shapes)
    stack = machine.assume_stack(common.left)
    left, other_left = machine.execute(program.row, stack), machine.execute(other_program.row, stack)
    pairs = pair_terms(machine, common.right, left, other_left)
    return not Search(machine.store).finds_difference(pairs)


def agree(program, other_program):
    """Tell whether two programs leave the same stack, in every world and on every stack that fits both."""
    check_both_programs(program, other_program)
    common = common_effect(program, other_program)
    if common is None:
        return False
    if common.order() > MOST_ORDER:
        raise HigherOrder()
    return is_always_same(common, program, other_program)


def agree_with_effects(program, other_program):
    """Tell whether two programs have effects and agree."""
    try:
        return agree(program, other_program)
    except NoEffect:
        return False


def is_idle(program, place):
    """Tell whether a program does the same without a word, as far as that can be decided."""
    try:
        return agree_with_effects(program, program.without(place))
    except HigherOrder:
        return False


def idle_words(program):
    """Return the places of the words that can be left out, one at a time."""
    check_program(program)
    if principal_effect(program).order() > MOST_ORDER:
        raise HigherOrder()
    return tuple([place for place in range(len(program)) if is_idle(program, place)])


def commute(program, other_program):
    """Tell whether two programs can be executed in both orders and do the same then."""
    check_both_programs(program, other_program)
    return agree_with_effects(program.then(other_program), other_program.then(program))


def undoes(program, other_program):
    """Tell whether the other program takes back what the program does."""
    check_both_programs(program, other_program)
    return agree_with_effects(program.then(other_program), Program(program.vocabulary, ""))
