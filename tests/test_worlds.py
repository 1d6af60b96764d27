import itertools
import random
import unittest

from stackquotes.solver import Solver
from stackquotes.store import APPLICATION, CHOICE, INTEGER, Store
from stackquotes.worlds import Search


def can_be_satisfied(variables, clauses):
    for truths in itertools.product((False, True), repeat=variables):
        if all(any(truths[abs(literal) - 2] == (literal > 0) for literal in clause) for clause in clauses):
            return True
    return False


class SolverTest(unittest.TestCase):
    def make_clauses(self, source, variables, many):
        # Variable 1 belongs to the solver.
        lengths = [source.choice((1, 2, 3, 3, 3)) for clause in range(many)]
        return [
            [source.choice((1, -1)) * source.randint(2, variables + 1) for place in range(length)] for length in lengths
        ]

    def test_random_clauses(self):
        source = random.Random(4)
        found = []
        for attempt in range(400):
            variables = source.randint(1, 8)
            clauses = self.make_clauses(source, variables, source.randint(0, 30))
            solver = Solver()
            for variable in range(variables):
                solver.add_variable()
            for clause in clauses:
                solver.add_clause(clause)
            with self.subTest(clauses=clauses):
                found.append(solver.solve())
                self.assertIs(found[-1], can_be_satisfied(variables, clauses))
                if found[-1]:
                    for clause in clauses:
                        self.assertTrue(any(solver.truth_of(literal) for literal in clause))
        self.assertGreater(min(found.count(True), found.count(False)), 100)

    def test_clauses_added_between_solutions(self):
        source = random.Random(5)
        for attempt in range(60):
            variables = source.randint(3, 7)
            clauses = self.make_clauses(source, variables, 30)
            solver = Solver()
            for variable in range(variables):
                solver.add_variable()
            for place, clause in enumerate(clauses):
                solver.add_clause(clause)
                with self.subTest(clauses=clauses[:place + 1]):
                    self.assertIs(solver.solve(), can_be_satisfied(variables, clauses[:place + 1]))

    def test_an_empty_clause(self):
        solver = Solver()
        self.assertIs(solver.solve(), True)
        solver.add_clause([])
        self.assertIs(solver.solve(), False)


def paths(store, terms):
    """Return, for each way to answer the tests inside, what is left of the terms."""
    found = []
    pending = [{}]
    while pending:
        answers = pending.pop()
        unknown = []

        def read(term):
            kind, *parts = store.nodes[term]
            if kind == INTEGER:
                return parts[0]
            if kind == APPLICATION:
                return (parts[0], *[read(part) for part in parts[1:]])
            test = read(parts[0])
            if isinstance(test, int):
                return read(parts[1] if test else parts[2])
            if test not in answers:
                unknown.append(test)
                return None
            return read(parts[1] if answers[test] else parts[2])

        left = [read(term) for term in terms]
        if unknown:
            pending.extend([{**answers, unknown[0]: truth} for truth in (True, False)])
        else:
            found.append(left)
    return found


def make_terms(source, store):
    terms = [store.keep(INTEGER, 0), store.keep(INTEGER, 1), store.apply("x", []), store.apply("y", [])]
    for step in range(source.randint(3, 14)):
        kind = source.random()
        if kind < 0.3:
            terms.append(store.apply("t", [source.choice(terms[-5:])]))
        elif kind < 0.45:
            terms.append(store.apply("f", [source.choice(terms[-6:]), source.choice(terms)]))
        else:
            terms.append(store.choose(*[source.choice(terms[-6:]) for place in range(3)]))
    return terms


def rewrite(source, store, terms, term, depth):
    """Return a term that is the same in every world but often looks different."""
    kind, *parts = store.nodes[term]
    if depth == 0 or kind == INTEGER:
        return term
    first = 1 if kind == APPLICATION else 0
    parts = parts[:first] + [rewrite(source, store, terms, part, depth - 1) for part in parts[first:]]
    choices = [place for place, part in enumerate(parts) if place >= first and store.nodes[part][0] == CHOICE]
    if kind == APPLICATION and choices and source.random() < 0.6:
        place = source.choice(choices)
        test, one, other = store.nodes[parts[place]][1:]
        branches = [store.keep(kind, *parts[:place], branch, *parts[place + 1:]) for branch in (one, other)]
        return store.keep(CHOICE, test, *branches)
    same = store.keep(kind, *parts)
    return store.keep(CHOICE, source.choice(terms), same, term) if source.random() < 0.3 else same


class SearchTest(unittest.TestCase):
    def assert_search(self, store, pairs):
        expected = any(one != other for pair in pairs for one, other in paths(store, pair))
        self.assertIs(Search(store).finds_difference(pairs), expected)
        return expected

    def test_random_pairs(self):
        source = random.Random(6)
        found = []
        for attempt in range(300):
            store = Store()
            terms = make_terms(source, store)
            pairs = [(source.choice(terms), source.choice(terms)) for place in range(source.randint(0, 3))]
            with self.subTest(attempt=attempt):
                found.append(self.assert_search(store, pairs))
        self.assertGreater(min(found.count(True), found.count(False)), 30)

    def test_terms_written_in_another_way(self):
        source = random.Random(7)
        for attempt in range(300):
            store = Store()
            terms = make_terms(source, store)
            other = rewrite(source, store, terms, terms[-1], 5)
            with self.subTest(attempt=attempt):
                self.assertIs(self.assert_search(store, [(terms[-1], other)]), False)

    def test_several_terms_written_in_another_way(self):
        source = random.Random(9)
        for attempt in range(200):
            store = Store()
            terms = make_terms(source, store)
            pairs = [(term, rewrite(source, store, terms, term, 5)) for term in terms[-3:]]
            with self.subTest(attempt=attempt):
                self.assertIs(self.assert_search(store, pairs), False)

    def test_terms_changed_in_one_case(self):
        source = random.Random(8)
        found = []
        for attempt in range(300):
            store = Store()
            terms = make_terms(source, store)
            changed = rewrite(source, store, terms, terms[-1], 5)
            for test in range(2):
                changed = store.keep(CHOICE, source.choice(terms), changed, source.choice((changed, terms[-2])))
            with self.subTest(attempt=attempt):
                found.append(self.assert_search(store, [(terms[-1], changed)]))
        self.assertGreater(min(found.count(True), found.count(False)), 30)


if __name__ == "__main__":
    unittest.main()
