"""The principal effect of a program, and what can be told from it."""

from stackquotes.errors import NoEffect, TooLong
from stackquotes.inference import common_effect, principal_effect
from stackquotes.limits import MOST_TEXT
from stackquotes.programs import check_both_programs, check_program
from stackquotes.shapes import PLAIN, QUOTATION, STACK_VARIABLE, VALUE_VARIABLE

ARROW = " -> "


def name_variable(letter, variable, numbers):
    """Return the name of a variable, which gets the next number of its kind if it has none yet."""
    if variable not in numbers:
        numbers[variable] = len(numbers)
    return f"{letter}{numbers[variable]}"


def pieces_of_shape(shapes, shape, numbers):
    """Return the texts and the shapes of which the text of a shape consists, in their order."""
    kind = shapes.kind_of(shape)
    if kind == STACK_VARIABLE:
        return [name_variable("s", shape, numbers[kind])]
    if kind == VALUE_VARIABLE:
        return [name_variable("a", shape, numbers[kind])]
    if kind == PLAIN:
        return ["*"]
    if kind == QUOTATION:
        left, right = shapes.parts_of(shape)
        return ["[", left, ARROW, right, "]"]
    stack, top = shapes.parts_of(shape)
    return [stack, " ", top]


def write_effect(found, most):
    """Return the text of an effect, or None if it has more characters than allowed."""
    numbers = {STACK_VARIABLE: {}, VALUE_VARIABLE: {}}
    written = []
    length = 0
    # Nothing is written far beyond the limit: a shape that is kept once may occur more often than can be written.
    pending = [found.right, ARROW, found.left]
    while pending and length <= most:
        piece = pending.pop()
        if isinstance(piece, str):
            written.append(piece)
            length += len(piece)
        else:
            shape = found.shapes.settle(piece)
            pending.extend(pieces_of_shape(found.shapes, shape, numbers)[::-1])
    return "".join(written) if length <= most else None


def effect(program):
    """Return the text of the principal effect of a program."""
    check_program(program)
    text = write_effect(principal_effect(program), MOST_TEXT)
    if text is None:
        raise TooLong(MOST_TEXT)
    return text


def reach(program):
    """Return how many shapes stand on both sides of the principal effect of a program."""
    check_program(program)
    found = principal_effect(program)
    taken = found.shapes.spread(found.left)[1]
    left = found.shapes.spread(found.right)[1]
    return (len(taken), len(left))


def is_first_order_effect(found):
    """Tell whether an effect has one stack variable, and no quotations among its shapes."""
    shapes = found.shapes
    below, taken = shapes.spread(found.left)
    after, left = shapes.spread(found.right)
    return below == after and all([shapes.kind_of(shape) != QUOTATION for shape in taken + left])


def is_first_order(program):
    """Tell whether a program is first-order; one without an effect is not."""
    check_program(program)
    try:
        found = principal_effect(program)
    except NoEffect:
        return False
    return is_first_order_effect(found)


def fit(program, other_program):
    """Tell whether the principal effects of two programs have a common instance."""
    check_both_programs(program, other_program)
    return common_effect(program, other_program) is not None
