"""Runs programs on concrete stacks, in a world whose plain values are the integers."""

from stackquotes.errors import HigherOrder, InvalidFunctions, InvalidResult, InvalidStack, TooShort
from stackquotes.inference import principal_effect
from stackquotes.kinds import is_plain_integer
from stackquotes.machine import Machine
from stackquotes.programs import check_program
from stackquotes.shapes import PLAIN
from stackquotes.store import BOTTOM, COMPOSED, INTEGER, WRITTEN
from stackquotes.words import quotation_text, read_row, row_text

MOST_RUN_ORDER = 1
GROUP_DIGITS = 64
GROUP = 10 ** 64


def check_functions(functions, vocabulary):
    """Raise InvalidFunctions unless the keys of a dict are exactly the names of the vocabulary."""
    if not isinstance(functions, dict) or len(functions) != len(vocabulary):
        raise InvalidFunctions(functions)
    if not all([name in functions for name in vocabulary.names]):
        raise InvalidFunctions(functions)


def is_stack_value(value, vocabulary):
    """Tell whether the value is an integer or the text of a program of any size and nesting."""
    if isinstance(value, str):
        return read_row(value, vocabulary) is not None
    return is_plain_integer(value)


def check_stack(stack, vocabulary):
    """Raise InvalidStack unless the stack is a tuple of integers and texts of programs."""
    if not isinstance(stack, tuple):
        raise InvalidStack(None)
    for place, value in enumerate(stack):
        if not is_stack_value(value, vocabulary):
            raise InvalidStack(place)


def check_fit(found, stack):
    """Raise HigherOrder, TooShort or InvalidStack unless a program with this effect can be run on the stack."""
    if found.order() > MOST_RUN_ORDER:
        raise HigherOrder()
    below, shapes = found.shapes.spread(found.left)
    if len(stack) < len(shapes):
        raise TooShort(len(shapes))
    first = len(stack) - len(shapes)
    for place, shape in enumerate(shapes, start=first):
        if found.shapes.kind_of(shape) == PLAIN and isinstance(stack[place], str):
            raise InvalidStack(place)


def check_result(result, outputs):
    """Raise InvalidResult unless a function's result is a tuple of as many integers as there are outputs."""
    if not isinstance(result, tuple) or len(result) != outputs:
        raise InvalidResult(result)
    if not all([is_plain_integer(value) for value in result]):
        raise InvalidResult(result)


def write_integer(integer):
    """Return the decimal digits of an integer; str(..) alone would refuse one of several thousand digits."""
    groups = []
    rest = abs(integer)
    while rest >= GROUP:
        rest, group = divmod(rest, GROUP)
        groups.append(str(group).zfill(GROUP_DIGITS))
    sign = "-" if integer < 0 else ""
    return "".join([sign, str(rest), *groups[::-1]])


class RunningMachine(Machine):
    """Executes programs on integers and quotations, and calls functions for the unknown words."""

    def __init__(self, shapes, functions):
        Machine.__init__(self, shapes)
        self.functions = functions

    def apply_word(self, name, outputs, taken):
        """Return the results of the function of an unknown word, as a list of values."""
        self.calls += 1
        function = self.functions[name]
        integers = [self.store.nodes[value][1] for value in taken]
        result = function(*integers)
        check_result(result, outputs)
        return [self.store.keep(INTEGER, integer) for integer in result]

    def choose(self, test, one, other):
        """Return the value that an integer chooses."""
        return other if self.store.nodes[test][1] == 0 else one

    def make_concrete(self, value, vocabulary):
        """Return the value that an integer or a text on the stack stands for."""
        if not isinstance(value, str):
            return self.store.keep(INTEGER, value)
        text = quotation_text(value)
        self.rows[text] = read_row(value, vocabulary)
        return self.store.keep(WRITTEN, text)

    def find_pieces(self, quotation):
        """Return the texts and quotations of which the text of a quotation consists, in their order."""
        kind, *parts = self.store.nodes[quotation]
        if kind == WRITTEN:
            return [word[1] for word in self.rows[parts[0]]]
        if kind == COMPOSED:
            return parts
        pushed, other = parts
        node = self.store.nodes[pushed]
        if node[0] == INTEGER:
            return [write_integer(node[1]), other]
        return ["[", pushed, "]", other]

    def write_quotation(self, quotation):
        """Return the text of a quotation."""
        written = []
        pending = [quotation]
        while pending:
            piece = pending.pop()
            if isinstance(piece, str):
                written.append(piece)
            else:
                pending.extend(self.find_pieces(piece)[::-1])
        return row_text(written)

    def write_value(self, value):
        """Return an integer, or the text of a quotation."""
        node = self.store.nodes[value]
        return node[1] if node[0] == INTEGER else self.write_quotation(value)


def run(program, functions, stack):
    """Return the stack that a program leaves on a concrete stack, with these functions for the unknown words."""
    check_program(program)
    vocabulary = program.vocabulary
    check_functions(functions, vocabulary)
    check_stack(stack, vocabulary)
    found = principal_effect(program)
    check_fit(found, stack)
    machine = RunningMachine(found.shapes, {name: functions[name] for name in vocabulary.names})
    bottom = machine.store.keep(BOTTOM, machine.store.apply("bottom", []))
    met = machine.store.push(bottom, [machine.make_concrete(value, vocabulary) for value in stack])
    return tuple([machine.write_value(value) for value in machine.leave(program.row, met)])
