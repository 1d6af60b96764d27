"""A second, naive way to find effects, and to compare and to run programs, for tests on small programs.

It works on texts and shares no code with the package. Shapes are nested tuples, quotations are Python functions, and
two programs are compared path by path: each path answers all tests that are asked.
"""

import itertools


class Clash(Exception):
    """Two shapes cannot be made the same."""


class Unanswered(Exception):
    """A test is asked that the path does not answer."""

    def __init__(self, test):
        self.test = test


def read(text):
    """Return the words of a text, quotations as lists."""
    rows = [[]]
    for token in text.split():
        if token == "[":
            rows.append([])
        elif token == "]":
            inner = rows.pop()
            rows[-1].append(inner)
        else:
            rows[-1].append(token)
    return rows[0]


class Inference:
    """Shapes: `*`, ("v", n), ("q", S, T). Stack shapes: ("s", n), ("p", stack, shape)."""

    def __init__(self, vocabulary):
        self.vocabulary = vocabulary
        self.bound = {}
        self.numbers = itertools.count()

    def new(self, kind):
        return (kind, next(self.numbers))

    def full(self, shape):
        """Return the shape with all variables replaced."""
        if shape[0] in "sv" and shape in self.bound:
            return self.full(self.bound[shape])
        if shape[0] in "qp":
            return (shape[0], self.full(shape[1]), self.full(shape[2]))
        return shape

    def occurs(self, variable, shape):
        return shape == variable or (shape[0] in "qp" and any(self.occurs(variable, part) for part in shape[1:]))

    def unify(self, one, other):
        one, other = self.full(one), self.full(other)
        if one == other:
            return
        if one[0] not in "sv":
            one, other = other, one
        if one[0] in "sv":
            if self.occurs(one, other):
                raise Clash()
            self.bound[one] = other
        elif one[0] == other[0] and one[0] in "qp":
            self.unify(one[1], other[1])
            self.unify(one[2], other[2])
        else:
            raise Clash()

    def word(self, word):
        s, t, u, v = (self.new("s") for place in range(4))
        a = self.new("v")
        if isinstance(word, list):
            left, right = self.row(word)
            return s, ("p", s, ("q", left, right))
        if word == "call":
            return ("p", s, ("q", s, t)), t
        if word == "dip":
            return ("p", ("p", s, a), ("q", s, t)), ("p", t, a)
        if word == "curry":
            return ("p", ("p", s, a), ("q", ("p", t, a), u)), ("p", s, ("q", t, u))
        if word == "compose":
            return ("p", ("p", s, ("q", t, u)), ("q", u, v)), ("p", s, ("q", t, v))
        if word == "choose":
            return ("p", ("p", ("p", s, "*"), a), a), ("p", s, a)
        if word.startswith("("):
            taken, left = word[1:-1].split("-")
            letters = {letter: self.new("v") for letter in taken}
            return pile(s, [letters[x] for x in taken]), pile(s, [letters[x] for x in left])
        inputs, outputs = (0, 1) if word not in self.vocabulary.names else self.vocabulary.arity(word)
        return pile(s, ["*"] * inputs), pile(s, ["*"] * outputs)

    def row(self, row):
        left = right = self.new("s")
        for word in row:
            taken, given = self.word(word)
            self.unify(right, taken)
            right = given
        return left, right


def pile(stack, shapes):
    for shape in shapes:
        stack = ("p", stack, shape)
    return stack


def spread(stack):
    shapes = []
    while stack[0] == "p":
        shapes.append(stack[2])
        stack = stack[1]
    return stack, shapes[::-1]


def order(shape):
    if shape[0] == "q":
        return max([1] + [1 + order(x) for x in spread(shape[1])[1]] + [order(x) for x in spread(shape[2])[1]])
    return 0


def effect_text(left, right):
    names = {}

    def shown(shape):
        if shape == "*":
            return "*"
        if shape[0] in "sv":
            if shape not in names:
                names[shape] = f"{'s' if shape[0] == 's' else 'a'}{sum(x[0] == shape[0] for x in names)}"
            return names[shape]
        if shape[0] == "q":
            start = shown(shape[1])
            return f"[{start} -> {shown(shape[2])}]"
        below = shown(shape[1])
        return f"{below} {shown(shape[2])}"

    start = shown(left)
    return f"{start} -> {shown(right)}"


def first_without_effect(vocabulary, text):
    """Return the place of the first word without effect, or None."""
    words = read(text)
    for length in range(len(words) + 1):
        try:
            Inference(vocabulary).row(words[:length])
        except Clash:
            return length - 1
    return None


def effect(vocabulary, text):
    """Return the text of the principal effect, or None."""
    inference = Inference(vocabulary)
    try:
        left, right = inference.row(read(text))
    except Clash:
        return None
    return effect_text(inference.full(left), inference.full(right))


def effect_order(vocabulary, text):
    """Return the order of the principal effect of a program that has one."""
    inference = Inference(vocabulary)
    left, right = inference.row(read(text))
    return order(("q", inference.full(left), inference.full(right)))


def common(vocabulary, one, other):
    """Return the most general common instance of two programs that have effects, or None."""
    inference = Inference(vocabulary)
    left, right = inference.row(read(one))
    other_left, other_right = inference.row(read(other))
    try:
        inference.unify(left, other_left)
        inference.unify(right, other_right)
    except Clash:
        return None
    return inference.full(left), inference.full(right)


class World:
    """A world whose plain values are terms, and in which tests are answered by a path."""

    def __init__(self, vocabulary, answers):
        self.vocabulary = vocabulary
        self.answers = answers
        self.numbers = itertools.count()

    def is_true(self, test):
        if isinstance(test, int):
            return test != 0
        if test not in self.answers:
            raise Unanswered(test)
        return self.answers[test]

    def value(self, shape, head, arguments):
        """Return what an assumed function gives for the arguments."""
        if shape[0] != "q":
            return (head, *arguments)
        return lambda stack: self.stack(shape[2], head, arguments + stack)

    def stack(self, shape, head, arguments):
        shapes = spread(shape)[1]
        values = [self.value(x, f"{head}.{place}", arguments) for place, x in enumerate(shapes)]
        return ((f"{head}.s", *arguments), *values)

    def new_stack(self, shape):
        return self.stack(shape, f"#{next(self.numbers)}", ())

    def run(self, row, stack):
        for word in row:
            stack = self.step(word, stack)
        return stack

    def step(self, word, stack):
        if isinstance(word, list):
            return (*stack, lambda below: self.run(word, below))
        if word == "call":
            return stack[-1](stack[:-1])
        if word == "dip":
            return (*stack[-1](stack[:-2]), stack[-2])
        if word == "curry":
            value, quotation = stack[-2:]
            return (*stack[:-2], lambda below: quotation((*below, value)))
        if word == "compose":
            first, second = stack[-2:]
            return (*stack[:-2], lambda below: second(first(below)))
        if word == "choose":
            return (*stack[:-3], stack[-2] if self.is_true(stack[-3]) else stack[-1])
        if word.startswith("("):
            taken, left = word[1:-1].split("-")
            letters = dict(zip(taken, stack[len(stack) - len(taken):]))
            return (*stack[:len(stack) - len(taken)], *[letters[x] for x in left])
        if word not in self.vocabulary.names:
            return (*stack, int(word))
        inputs, outputs = self.vocabulary.arity(word)
        below, taken = stack[:len(stack) - inputs], stack[len(stack) - inputs:]
        return (*below, *[(word, place, *taken) for place in range(outputs)])

    def same(self, shape, one, other):
        """Tell whether two stacks with a stack shape are the same."""
        if one[0] != other[0]:
            return False
        for inner, value, other_value in zip(spread(shape)[1], one[1:], other[1:]):
            if inner[0] == "q":
                stack = self.new_stack(inner[1])
                if not self.same(inner[2], value(stack), other_value(stack)):
                    return False
            elif value != other_value:
                return False
        return True


def same_on_path(vocabulary, instance, one, other, answers):
    world = World(vocabulary, answers)
    stack = world.new_stack(instance[0])
    return world.same(instance[1], world.run(read(one), stack), world.run(read(other), stack))


def agree(vocabulary, one, other):
    """Tell whether two programs with effects agree; None if their common instance has an order above 2."""
    instance = common(vocabulary, one, other)
    if instance is None:
        return False
    if order(("q", *instance)) > 2:
        return None
    pending = [{}]
    while pending:
        answers = pending.pop()
        try:
            if not same_on_path(vocabulary, instance, one, other, answers):
                return False
        except Unanswered as error:
            pending.extend([{**answers, error.test: truth} for truth in (True, False)])
    return True


def input_names(instance):
    """Return the names of the inputs of an effect, the lowest first."""
    return [f"x{number}" for number in range(len(spread(instance[0])[1]))][::-1]


def first_order(vocabulary, text):
    """Return the principal effect of a first-order program, or None."""
    inference = Inference(vocabulary)
    left, right = (inference.full(side) for side in inference.row(read(text)))
    shapes = spread(left)[1] + spread(right)[1]
    if spread(left)[0] != spread(right)[0] or any(shape[0] == "q" for shape in shapes):
        return None
    return left, right


class Path(World):
    """A world that notes the tests in the order in which they are asked; those beyond the given answers are true."""

    def __init__(self, vocabulary, answers):
        World.__init__(self, vocabulary, {})
        self.given = answers

    def is_true(self, test):
        if not isinstance(test, int) and test not in self.answers:
            self.answers[test] = self.given[len(self.answers)] if len(self.answers) < len(self.given) else True
        return World.is_true(self, test)


def paths(vocabulary, rows, most):
    """Return triples (tests, answers, stacks) for the first cases of several programs on several stacks."""
    found = []
    pending = [[]]
    while pending and len(found) < most:
        given = pending.pop()
        path = Path(vocabulary, given)
        stacks = [path.run(read(text), stack) for text, stack in rows]
        answers = list(path.answers.values())
        found.append((list(path.answers), answers, stacks))
        # The case that differs last is the next one.
        pending.extend([[*answers[:place], False] for place in range(len(given), len(answers))])
    return found


def term_text(vocabulary, term):
    if not isinstance(term, tuple):
        return str(term)
    word, place, *arguments = term
    name = word if vocabulary.arity(word)[1] == 1 else f"{word}.{place}"
    return f"{name}({','.join(term_text(vocabulary, argument) for argument in arguments)})"


def tests_text(vocabulary, tests, answers):
    return tuple((term_text(vocabulary, test), answer) for test, answer in zip(tests, answers))


def cases(vocabulary, text, most):
    """Return the first cases of a first-order program."""
    names = tuple(input_names(first_order(vocabulary, text)))
    return tuple(
        (tests_text(vocabulary, tests, answers), tuple(term_text(vocabulary, term) for term in stacks[0]))
        for tests, answers, stacks in paths(vocabulary, [(text, names)], most)
    )


def first_difference(vocabulary, one, other, most):
    """Return the first difference of two first-order programs that do not agree, or None, and how many cases there are."""
    names = tuple(input_names(common(vocabulary, one, other)))
    followed = paths(vocabulary, [(one, names), (other, names)], most)
    for tests, answers, (left, other_left) in followed:
        for place, (term, other_term) in enumerate(zip(left[::-1], other_left[::-1])):
            if term != other_term:
                terms = (term_text(vocabulary, term), term_text(vocabulary, other_term))
                return (tests_text(vocabulary, tests, answers), place, terms), len(followed)
    return None, len(followed)


def unneeded(vocabulary, text):
    """Return the numbers of the inputs of a first-order program on which nothing depends."""
    names = input_names(first_order(vocabulary, text))
    found = []
    for number in range(len(names)):
        other_names = ["other" if name == f"x{number}" else name for name in names]
        followed = paths(vocabulary, [(text, tuple(names)), (text, tuple(other_names))], 10 ** 6)
        if all(left == other_left for tests, answers, (left, other_left) in followed):
            found.append(number)
    return tuple(found)


def run(vocabulary, text, functions, stack):
    """Return what a program leaves; a quotation is a list of its words, an integer in it stands for itself."""
    stack = [value if isinstance(value, int) else read(value) for value in stack]
    run_row(vocabulary, read(text), functions, stack)
    return tuple(value if isinstance(value, int) else " ".join(show_word(word) for word in value) for value in stack)


def show_word(word):
    return " ".join(["[", *[show_word(inner) for inner in word], "]"]) if isinstance(word, list) else str(word)


def run_row(vocabulary, row, functions, stack):
    for word in row:
        if isinstance(word, (list, int)):
            stack.append(word)
        elif word == "call":
            run_row(vocabulary, stack.pop(), functions, stack)
        elif word == "dip":
            quotation, value = stack.pop(), stack.pop()
            run_row(vocabulary, quotation, functions, stack)
            stack.append(value)
        elif word == "curry":
            quotation, value = stack.pop(), stack.pop()
            stack.append([value, *quotation])
        elif word == "compose":
            second, first = stack.pop(), stack.pop()
            stack.append(first + second)
        elif word == "choose":
            other, one, test = stack.pop(), stack.pop(), stack.pop()
            stack.append(one if test else other)
        elif word in vocabulary.names:
            inputs = vocabulary.arity(word)[0]
            taken = [stack.pop() for place in range(inputs)]
            stack.extend(functions[word](*taken[::-1]))
        elif word.startswith("("):
            taken, left = word[1:-1].split("-")
            letters = {letter: stack.pop() for letter in taken[::-1]}
            stack.extend([letters[letter] for letter in left])
        else:
            stack.append(int(word))
