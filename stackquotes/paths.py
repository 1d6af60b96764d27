"""Executes first-order programs path by path. A path tells the answers of the tests that are asked on it."""

from stackquotes.machine import Machine
from stackquotes.store import BOTTOM, INTEGER


def name_inputs(found):
    """Return a list of the names of the inputs that an effect takes, the lowest first."""
    below, shapes = found.shapes.spread(found.left)
    return [f"x{number}" for number in reversed(range(len(shapes)))]


def make_inputs(store, names):
    """Return the stack of inputs with these names, the lowest first."""
    bottom = store.keep(BOTTOM, store.apply("bottom", []))
    return store.push(bottom, [store.apply(name, []) for name in names])


class PathMachine(Machine):
    """Executes programs on one path after the other; a test that was asked on a path is not asked again on it."""

    def __init__(self, shapes):
        Machine.__init__(self, shapes)
        self.answers = []
        # The tests that were asked on the present path, in their order, with their answers.
        self.asked = {}

    def begin_path(self, answers):
        """Begin a path on which the first tests have these answers, and all others are true."""
        self.answers = answers
        self.asked = {}
        # What a quotation has left on another path, with other answers, tells nothing here.
        self.results = {}

    def is_true(self, test):
        """Return whether a test is true on the present path."""
        node = self.store.nodes[test]
        if node[0] == INTEGER:
            return node[1] != 0
        if test not in self.asked:
            place = len(self.asked)
            self.asked[test] = self.answers[place] if place < len(self.answers) else True
        return self.asked[test]

    def choose(self, test, one, other):
        """Return the value that the test chooses on the present path."""
        return one if self.is_true(test) else other

    def find_next_answers(self):
        """Return the answers with which the next path begins, or None if this path is the last one."""
        answers = list(self.asked.values())
        while answers and not answers[-1]:
            answers.pop()
        return [*answers[:-1], False] if answers else None
