"""Finds the principal effects of programs."""

from stackquotes.errors import NoEffect
from stackquotes.shapes import PLAIN, QUOTATION, STACK_VARIABLE, VALUE_VARIABLE, Shapes
from stackquotes.words import CORE, LITERAL, SHUFFLE, UNKNOWN


class Effect:
    """Two stack shapes of a store: what a program takes and what it leaves."""

    def __init__(self, shapes, left, right):
        self.shapes = shapes
        self.left = left
        self.right = right

    def order(self):
        """Return the order of the effect."""
        return self.shapes.order(self.shapes.make(QUOTATION, self.left, self.right))


def stack_variables(shapes, many):
    """Return a list of new stack variables."""
    return [shapes.make(STACK_VARIABLE) for place in range(many)]


def value_variables(shapes, many):
    """Return a list of new value variables."""
    return [shapes.make(VALUE_VARIABLE) for place in range(many)]


def plains(shapes, many):
    """Return a list of shapes of plain values."""
    return [shapes.make(PLAIN) for place in range(many)]


def effect_of_call(shapes):
    """Return both stack shapes of `s [s -> t] -> t`."""
    below, after = stack_variables(shapes, 2)
    return shapes.pile(below, [shapes.make(QUOTATION, below, after)]), after


def effect_of_dip(shapes):
    """Return both stack shapes of `s a [s -> t] -> t a`."""
    below, after = stack_variables(shapes, 2)
    kept = shapes.make(VALUE_VARIABLE)
    taken = shapes.pile(below, [kept, shapes.make(QUOTATION, below, after)])
    return taken, shapes.pile(after, [kept])


def effect_of_curry(shapes):
    """Return both stack shapes of `s a [t a -> u] -> s [t -> u]`."""
    below, before, after = stack_variables(shapes, 3)
    pushed = shapes.make(VALUE_VARIABLE)
    asked = shapes.make(QUOTATION, shapes.pile(before, [pushed]), after)
    made = shapes.make(QUOTATION, before, after)
    return shapes.pile(below, [pushed, asked]), shapes.pile(below, [made])


def effect_of_compose(shapes):
    """Return both stack shapes of `s [t -> u] [u -> v] -> s [t -> v]`."""
    below, before, between, after = stack_variables(shapes, 4)
    first = shapes.make(QUOTATION, before, between)
    second = shapes.make(QUOTATION, between, after)
    made = shapes.make(QUOTATION, before, after)
    return shapes.pile(below, [first, second]), shapes.pile(below, [made])


def effect_of_choose(shapes):
    """Return both stack shapes of `s * a a -> s a`."""
    below = shapes.make(STACK_VARIABLE)
    chosen = shapes.make(VALUE_VARIABLE)
    taken = shapes.pile(below, [shapes.make(PLAIN), chosen, chosen])
    return taken, shapes.pile(below, [chosen])


CORE_EFFECTS = {
    "call": effect_of_call,
    "dip": effect_of_dip,
    "curry": effect_of_curry,
    "compose": effect_of_compose,
    "choose": effect_of_choose,
}


def effect_of_word(shapes, word):
    """Return both stack shapes of a word's effect, with new variables; raise NoEffect if it has none."""
    kind, text, detail = word
    if kind == CORE:
        core_effect = CORE_EFFECTS[text]
        return core_effect(shapes)
    below = shapes.make(STACK_VARIABLE)
    if kind == LITERAL:
        return below, shapes.pile(below, plains(shapes, 1))
    if kind == UNKNOWN:
        inputs, outputs = detail
        return shapes.pile(below, plains(shapes, inputs)), shapes.pile(below, plains(shapes, outputs))
    if kind == SHUFFLE:
        taken, places = detail
        letters = value_variables(shapes, taken)
        return shapes.pile(below, letters), shapes.pile(below, [letters[place] for place in places])
    left, right = effect_of_row(shapes, detail)
    return below, shapes.pile(below, [shapes.make(QUOTATION, left, right)])


def effect_of_row(shapes, row):
    """Return both stack shapes of the principal effect of a row; raise NoEffect if it has none."""
    left = right = shapes.make(STACK_VARIABLE)
    for place, word in enumerate(row):
        try:
            taken, given = effect_of_word(shapes, word)
        except NoEffect:
            # A word inside of a quotation has no effect: the place is that of the quotation.
            raise NoEffect(place) from None
        if not shapes.unify(right, taken):
            raise NoEffect(place)
        right = given
    return left, right


def principal_effect(program):
    """Return the principal effect of a program; raise NoEffect if it has none."""
    shapes = Shapes()
    left, right = effect_of_row(shapes, program.row)
    return Effect(shapes, left, right)


def common_effect(program, other_program):
    """Return the most general common instance of both principal effects, or None; raise NoEffect without one."""
    shapes = Shapes()
    left, right = effect_of_row(shapes, program.row)
    other_left, other_right = effect_of_row(shapes, other_program.row)
    if not shapes.unify(left, other_left) or not shapes.unify(right, other_right):
        return None
    return Effect(shapes, left, right)


def is_same_effect(one, other):
    """Tell whether two effects are the same, whatever their variables are called."""
    matched = {}
    renamed, other_renamed = {}, {}
    pending = [(one.left, other.left), (one.right, other.right)]
    while pending:
        first, second = pending.pop()
        first, second = one.shapes.settle(first), other.shapes.settle(second)
        if (first, second) in matched:
            continue
        matched[(first, second)] = True
        if one.shapes.kinds[first] != other.shapes.kinds[second]:
            return False
        if one.shapes.is_variable(first):
            if renamed.setdefault(first, second) != second or other_renamed.setdefault(second, first) != first:
                return False
        pending.extend(list(zip(one.shapes.parts_of(first), other.shapes.parts_of(second))))
    return True
