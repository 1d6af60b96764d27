"""The cases of first-order programs: what such a program leaves, as the answers of its tests tell."""

from stackquotes.effects import is_first_order_effect
from stackquotes.errors import HigherOrder, TooManyCases
from stackquotes.inference import common_effect, principal_effect
from stackquotes.limits import MOST_CASES
from stackquotes.machine import Machine
from stackquotes.paths import PathMachine, make_inputs, name_inputs
from stackquotes.programs import check_both_programs, check_program
from stackquotes.terms import TermTexts
from stackquotes.worlds import Search


def check_first_order(found):
    """Raise HigherOrder unless the effect is that of a first-order program."""
    if not is_first_order_effect(found):
        raise HigherOrder()


def find_first_order(program):
    """Return the principal effect of a first-order program; raise the error of any other argument."""
    check_program(program)
    found = principal_effect(program)
    check_first_order(found)
    return found


def check_count(many):
    """Raise TooManyCases if there is no room for a further case."""
    if many >= MOST_CASES:
        raise TooManyCases(MOST_CASES)


def follow_paths(machine, program, stack):
    """Return a list of the cases of a program: pairs of its tests, in a dict with their answers, and its outputs."""
    followed = []
    answers = []
    while answers is not None:
        check_count(len(followed))
        machine.begin_path(answers)
        left = machine.leave(program.row, stack)
        followed.append((machine.asked, left))
        answers = machine.find_next_answers()
    return followed


def write_tests(texts, asked):
    """Return the tests of a case with their answers, as the cases tell them."""
    return tuple([(texts.write(test), answer) for test, answer in asked.items()])


def cases(program):
    """Return the cases of a first-order program, as pairs of its tests and its outputs."""
    found = find_first_order(program)
    machine = PathMachine(found.shapes)
    followed = follow_paths(machine, program, make_inputs(machine.store, name_inputs(found)))
    texts = TermTexts(machine.store, program.vocabulary)
    return tuple([(write_tests(texts, asked), tuple([texts.write(term) for term in left])) for asked, left in followed])


def find_topmost(left, other_left):
    """Return the place, from the top, of the topmost value in which two lists of values differ, or None."""
    for place, (term, other_term) in enumerate(zip(left[::-1], other_left[::-1])):
        if term != other_term:
            return place
    return None


def write_difference(machine, vocabulary, place, terms):
    """Return the triple that describes a difference on the machine's present path."""
    texts = TermTexts(machine.store, vocabulary)
    tests = write_tests(texts, machine.asked)
    return (tests, place, tuple([texts.write(term) for term in terms]))


def find_difference(common, program, other_program):
    """Return the first difference of two first-order programs whose effects have this common instance, or None."""
    machine = PathMachine(common.shapes)
    stack = make_inputs(machine.store, name_inputs(common))
    answers = []
    followed = 0
    while answers is not None:
        check_count(followed)
        machine.begin_path(answers)
        left, other_left = machine.leave(program.row, stack), machine.leave(other_program.row, stack)
        place = find_topmost(left, other_left)
        if place is not None:
            terms = (left[-1 - place], other_left[-1 - place])
            return write_difference(machine, program.vocabulary, place, terms)
        followed += 1
        answers = machine.find_next_answers()
    return None


def first_difference(program, other_program):
    """Return the first case in which two first-order programs leave different stacks, or what there is instead."""
    check_both_programs(program, other_program)
    found, other_found = principal_effect(program), principal_effect(other_program)
    check_first_order(found)
    check_first_order(other_found)
    common = common_effect(program, other_program)
    return () if common is None else find_difference(common, program, other_program)


def is_needed(machine, program, names, place):
    """Tell whether there is a world in which what a program leaves depends on the input at a place."""
    other_names = [*names[:place], "other", *names[place + 1:]]
    left = machine.leave(program.row, make_inputs(machine.store, names))
    other_left = machine.leave(program.row, make_inputs(machine.store, other_names))
    return Search(machine.store).finds_difference(list(zip(left, other_left)))


def unneeded(program):
    """Return the numbers of the inputs of a first-order program on which nothing depends."""
    found = find_first_order(program)
    names = name_inputs(found)
    counting = PathMachine(found.shapes)
    follow_paths(counting, program, make_inputs(counting.store, names))
    # A value that depends on a test is one value here, the choice, whatever the answer is.
    machine = Machine(found.shapes)
    top = len(names) - 1
    return tuple([number for number in range(len(names)) if not is_needed(machine, program, names, top - number)])
