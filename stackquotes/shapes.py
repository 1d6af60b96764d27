"""Shapes of values and stacks, kept in a store in which variables are replaced.

A shape is known by its number in the store. What a variable has been replaced by is reached through a link, so that
a shape that occurs many times is kept only once: written out, it may be far too long.
"""

STACK_VARIABLE = "stack variable"
VALUE_VARIABLE = "value variable"
PLAIN = "plain"
QUOTATION = "quotation"
PUSH = "push"


class Shapes:
    """A store of shapes.

    The parts of a quotation are two stack shapes, those of a push are a stack shape and the shape on top of it.
    """

    def __init__(self):
        self.kinds = []
        self.parts = []
        self.links = []

    def make(self, kind, *parts):
        """Return the number of a new shape."""
        self.kinds.append(kind)
        self.parts.append(parts)
        self.links.append(len(self.links))
        return len(self.links) - 1

    def pile(self, stack, shapes):
        """Return the stack shape with these shapes on top of another one, the lowest first."""
        for shape in shapes:
            stack = self.make(PUSH, stack, shape)
        return stack

    def settle(self, shape):
        """Return the shape that stands for this one, after all replacements so far."""
        while self.links[shape] != shape:
            # Every second link is shortened on the way, which keeps the ways short.
            self.links[shape] = self.links[self.links[shape]]
            shape = self.links[shape]
        return shape

    def kind_of(self, shape):
        """Return the kind of a shape."""
        return self.kinds[self.settle(shape)]

    def is_variable(self, shape):
        """Tell whether a settled shape is a variable."""
        return self.kinds[shape] in (STACK_VARIABLE, VALUE_VARIABLE)

    def parts_of(self, shape):
        """Return the parts of a shape, each settled."""
        return [self.settle(part) for part in self.parts[self.settle(shape)]]

    def spread(self, stack):
        """Return the stack variable of a stack shape, and the list of the shapes on it, the lowest first."""
        shapes = []
        stack = self.settle(stack)
        while self.kinds[stack] == PUSH:
            stack, shape = self.parts_of(stack)
            shapes.append(shape)
        return stack, shapes[::-1]

    def unify(self, one, other):
        """Replace variables so that both become the same; tell whether finite shapes can do that."""
        pending = [(one, other)]
        while pending:
            first, second = pending.pop()
            first, second = self.settle(first), self.settle(second)
            if first == second:
                continue
            if self.is_variable(second):
                first, second = second, first
            if not self.is_variable(first):
                if self.kinds[first] != self.kinds[second]:
                    return False
                pending.extend(list(zip(self.parts[first], self.parts[second])))
            # Linked before its parts are compared: so even an infinite shape comes to an end here.
            self.links[first] = second
        return self.is_finite(one)

    def is_finite(self, shape):
        """Tell whether no shape contains itself, among the shape and all that is inside."""
        # False for a shape that the way has entered, True for one that it has left again.
        left = {}
        pending = [shape]
        while pending:
            inner = self.settle(pending[-1])
            if inner in left:
                left[inner] = True
                pending.pop()
                continue
            left[inner] = False
            for part in self.parts_of(inner):
                if part not in left:
                    pending.append(part)
                elif not left[part]:
                    return False
        return True

    def order(self, shape):
        """Return the order of a shape; that of a stack shape is the greatest of its shapes' orders, or 0."""
        orders = {}
        pending = [shape]
        while pending:
            inner = self.settle(pending[-1])
            missing = [part for part in self.parts_of(inner) if part not in orders]
            if missing:
                pending.extend(missing)
                continue
            pending.pop()
            below = [orders[part] for part in self.parts_of(inner)]
            if self.kinds[inner] == QUOTATION:
                orders[inner] = max(1 + below[0], below[1])
            else:
                orders[inner] = max(below, default=0)
        return orders[self.settle(shape)]
