"""Values and stacks as a program meets them while nothing is known of its inputs and of the unknown words.

Each is a tuple, called a node, and is known by its number in a store, which keeps every node once: so two that are
built alike have the same number. The parts of a node are its kind and
- for an integer, the integer;
- for an application, a head, which names a function, and the arguments, which are no quotations;
- for a choice, its test, the value if the test is true, and the value if it is not;
- for a written quotation, its text;
- for a curried quotation, the value and the other quotation, and for a composed one, both quotations;
- for an assumed quotation, a head and the arguments: an input, or what another assumed quotation has left;
- for the bottom of a stack, an application that stands for all values below;
- for a push, the stack below and the value on top.
Terms are integers, applications and choices between terms.
"""

INTEGER = "integer"
APPLICATION = "application"
CHOICE = "choice"
WRITTEN = "written"
CURRIED = "curried"
COMPOSED = "composed"
ASSUMED = "assumed"
BOTTOM = "bottom"
PUSHED = "pushed"


class Store:
    """A store of nodes."""

    def __init__(self):
        self.nodes = []
        self.places = {}
        # Tells of each term whether it has no choice inside: two such terms with two numbers are different terms.
        self.choiceless = []

    def keep(self, *node):
        """Return the number of a node."""
        if node not in self.places:
            self.places[node] = len(self.nodes)
            self.nodes.append(node)
            self.choiceless.append(self.has_no_choice(node))
        return self.places[node]

    def has_no_choice(self, node):
        """Tell whether a term has no choice inside; for other nodes the answer means nothing."""
        if node[0] == APPLICATION:
            return all([self.choiceless[argument] for argument in node[2:]])
        return node[0] != CHOICE

    def apply(self, head, arguments):
        """Return the result of a function."""
        return self.keep(APPLICATION, head, *arguments)

    def choose(self, test, one, other):
        """Return one value if the test is true, otherwise the other one, or the choice between both."""
        asked = self.nodes[test]
        if asked[0] == INTEGER:
            return other if asked[1] == 0 else one
        # Within the choice the same test need not be asked again.
        if self.nodes[one][:2] == (CHOICE, test):
            one = self.nodes[one][2]
        if self.nodes[other][:2] == (CHOICE, test):
            other = self.nodes[other][3]
        return one if one == other else self.keep(CHOICE, test, one, other)

    def push(self, stack, pushed):
        """Return the stack with these values on top, the lowest first."""
        for value in pushed:
            stack = self.keep(PUSHED, stack, value)
        return stack

    def take(self, stack, many):
        """Return the stack below its top values, and the list of these, the lowest first."""
        taken = []
        for place in range(many):
            kind, stack, value = self.nodes[stack]
            taken.append(value)
        return stack, taken[::-1]

    def take_all(self, stack):
        """Return the term at the bottom of a stack, and the list of the values on it, the lowest first."""
        taken = []
        while self.nodes[stack][0] == PUSHED:
            kind, stack, value = self.nodes[stack]
            taken.append(value)
        return self.nodes[stack][1], taken[::-1]

    def choose_stack(self, test, one, other):
        """Return the stack in which every value is chosen between those of two stacks of the same height."""
        chosen = []
        # Below the place from which on both stacks are the same, nothing is to be chosen.
        while one != other and self.nodes[one][0] == PUSHED:
            kind, one, value = self.nodes[one]
            kind, other, other_value = self.nodes[other]
            chosen.append(self.choose(test, value, other_value))
        if one != other:
            one = self.keep(BOTTOM, self.choose(test, self.nodes[one][1], self.nodes[other][1]))
        return self.push(one, chosen[::-1])
