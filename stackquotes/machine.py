"""Executes programs on stacks of which only the shapes are known."""

from stackquotes.shapes import QUOTATION
from stackquotes.store import (
    ASSUMED,
    BOTTOM,
    CHOICE,
    COMPOSED,
    CURRIED,
    INTEGER,
    WRITTEN,
    Store,
)
from stackquotes.words import CORE, LITERAL, SHUFFLE, UNKNOWN


def do_call(machine):
    """Execute the word `call`."""
    quotation = machine.take(1)[0]
    machine.tasks.append((execute_quotation, quotation))


def do_dip(machine):
    """Execute the word `dip`."""
    kept, quotation = machine.take(2)
    machine.tasks.append((push_kept, kept))
    machine.tasks.append((execute_quotation, quotation))


def do_curry(machine):
    """Execute the word `curry`."""
    pushed, quotation = machine.take(2)
    machine.push([machine.store.keep(CURRIED, pushed, quotation)])


def do_compose(machine):
    """Execute the word `compose`."""
    first, second = machine.take(2)
    machine.push([machine.store.keep(COMPOSED, first, second)])


def do_choose(machine):
    """Execute the word `choose`."""
    test, one, other = machine.take(3)
    machine.push([machine.choose(test, one, other)])


CORE_ACTIONS = {
    "call": do_call,
    "dip": do_dip,
    "curry": do_curry,
    "compose": do_compose,
    "choose": do_choose,
}


def execute_word(machine, word):
    """Execute one word; of a quotation that is called, only the task is noted."""
    kind, text, detail = word
    if kind == CORE:
        action = CORE_ACTIONS[text]
        action(machine)
    elif kind == LITERAL:
        machine.push([machine.store.keep(INTEGER, detail)])
    elif kind == SHUFFLE:
        many, places = detail
        taken = machine.take(many)
        machine.push([taken[place] for place in places])
    elif kind == UNKNOWN:
        inputs, outputs = detail
        taken = machine.take(inputs)
        machine.push(machine.apply_word(text, outputs, taken))
    else:
        machine.rows[text] = detail
        machine.push([machine.store.keep(WRITTEN, text)])


def execute_row(machine, row, place):
    """Execute the words of a row from a place on."""
    if place < len(row):
        machine.tasks.append((execute_row, row, place + 1))
        execute_word(machine, row[place])


def execute_quotation(machine, quotation):
    """Execute a quotation on the present stack."""
    called = (quotation, machine.stack)
    if called in machine.results:
        machine.stack = machine.results[called]
        return
    machine.tasks.append((remember, called, machine.calls))
    kind, *parts = machine.store.nodes[quotation]
    if kind == WRITTEN:
        machine.tasks.append((execute_row, machine.rows[parts[0]], 0))
    elif kind == CURRIED:
        machine.push(parts[:1])
        machine.tasks.append((execute_quotation, parts[1]))
    elif kind == COMPOSED:
        machine.tasks.append((execute_quotation, parts[1]))
        machine.tasks.append((execute_quotation, parts[0]))
    elif kind == CHOICE:
        test, one, other = parts
        machine.tasks.append((execute_other, test, other, machine.stack))
        machine.tasks.append((execute_quotation, one))
    else:
        machine.leave_assumed(parts[0], parts[1:])


def execute_other(machine, test, other, stack):
    """Execute the other one of two quotations, on the stack that the first one has met."""
    machine.tasks.append((merge, test, machine.stack))
    machine.tasks.append((execute_quotation, other))
    machine.stack = stack


def push_kept(machine, kept):
    """Push the value that `dip` has kept."""
    machine.push([kept])


def merge(machine, test, stack):
    """Choose between the stack that the first one of two quotations has left and the present one."""
    machine.stack = machine.store.choose_stack(test, stack, machine.stack)


def remember(machine, called, calls):
    """Note what a quotation has left, so that it is not executed again on the same stack."""
    if calls == machine.calls:
        machine.results[called] = machine.stack


class Machine:
    """Executes programs on stacks that fit the stack shapes of a store.

    Where a choice is called, both quotations are executed, and the values that they leave are chosen one by one. What
    is still to be done is kept as a list of tasks, the next one last: a function with its arguments after the machine.
    """

    def __init__(self, shapes):
        self.shapes = shapes
        self.store = Store()
        self.stack = None
        self.tasks = []
        self.rows = {}
        self.results = {}
        # How often a function outside of the machine was called: what calls one is executed anew each time.
        self.calls = 0
        self.assumed_shapes = {}
        self.assumed_stacks = 0

    def push(self, pushed):
        """Push values on the present stack, the lowest first."""
        self.stack = self.store.push(self.stack, pushed)

    def take(self, many):
        """Pop values from the present stack, and return them, the lowest first."""
        self.stack, taken = self.store.take(self.stack, many)
        return taken

    def apply_word(self, name, outputs, taken):
        """Return the results of an unknown word, as a list of values."""
        return [self.store.apply(f"{name}.{number}", taken) for number in range(outputs)]

    def choose(self, test, one, other):
        """Return the value that the test chooses, or the choice between both."""
        return self.store.choose(test, one, other)

    def assume_stack(self, stack_shape):
        """Return a new stack of which nothing is known but its stack shape."""
        self.assumed_stacks += 1
        # A head with a space cannot be taken for one that begins with the name of a word.
        return self.make_stack(stack_shape, f"stack {self.assumed_stacks}", [])

    def make_stack(self, stack_shape, head, arguments):
        """Return the stack with this stack shape whose values are functions of the arguments."""
        below, shapes = self.shapes.spread(stack_shape)
        bottom = self.store.keep(BOTTOM, self.store.apply(f"{head}.s", arguments))
        made = [self.make_value(shape, f"{head}.{place}", arguments) for place, shape in enumerate(shapes)]
        return self.store.push(bottom, made)

    def make_value(self, shape, head, arguments):
        """Return the value with this shape that is a function of the arguments."""
        if self.shapes.kind_of(shape) != QUOTATION:
            return self.store.apply(head, arguments)
        self.assumed_shapes[head] = shape
        return self.store.keep(ASSUMED, head, *arguments)

    def leave_assumed(self, head, arguments):
        """Execute a quotation of which only the shape is known, on the present stack."""
        bottom, taken = self.store.take_all(self.stack)
        left, right = self.shapes.parts_of(self.assumed_shapes[head])
        self.stack = self.make_stack(right, head, [*arguments, bottom, *taken])

    def finish(self, task, stack):
        """Return the stack that is left if a task is done on a stack."""
        self.stack = stack
        self.tasks.append(task)
        while self.tasks:
            action, *details = self.tasks.pop()
            action(self, *details)
        return self.stack

    def execute(self, row, stack):
        """Return the stack that a row of words leaves on a stack."""
        return self.finish((execute_row, row, 0), stack)

    def leave(self, row, stack):
        """Return a list of the values that a row of words leaves in the place of those on a stack, the lowest first."""
        bottom, left = self.store.take_all(self.execute(row, stack))
        return left

    def call(self, quotation, stack):
        """Return the stack that a quotation leaves on a stack."""
        return self.finish((execute_quotation, quotation), stack)
