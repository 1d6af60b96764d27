"""Decides whether terms are the same in every world.

A world in which two terms differ is looked for by a solver. Its variables tell of tests that they are true, and of
pairs of terms that they differ. A test is known by its number in the store, and two tests may turn out to be the same
term once the choices inside are made. The solver is told that such tests are true together only when a solution
violates that, because there may be far too many pairs of tests.
"""

from stackquotes.solver import NO, YES, Solver
from stackquotes.store import CHOICE, INTEGER


class Reading:
    """Terms with all choices made, as the answers to their tests tell.

    The answers are given for tests that are applications; a test without an answer is not true.
    """

    def __init__(self, store, answers):
        self.store = store
        self.answers = answers
        # For each term: what is left of it, without choices, and the term inside to which its choices lead.
        self.left_terms = {}
        self.chosen_terms = {}
        # For each test without choices: the term for which it was asked first, and the answer.
        self.asked = {}
        # The pairs of tests that are the same but have different answers.
        self.clashes = {}

    def ask(self, test):
        """Return whether a test is true, and note if the same test was answered otherwise before."""
        chosen = self.chosen_terms[test]
        node = self.store.nodes[chosen]
        if node[0] == INTEGER:
            return node[1] != 0
        answer = self.answers.get(chosen, False)
        first, first_answer = self.asked.setdefault(self.left_terms[test], (chosen, answer))
        if answer != first_answer:
            self.clashes[(first, chosen)] = True
        return answer

    def find_missing(self, term):
        """Return a list of terms inside that must be reduced before this one."""
        kind, *parts = self.store.nodes[term]
        if kind == CHOICE:
            test, one, other = parts
            needed = [test]
            if test in self.left_terms:
                needed = [one if self.ask(test) else other]
        else:
            needed = parts[1:]
        return [inner for inner in needed if inner not in self.left_terms]

    def make_choice(self, term):
        """Note what is left of a choice, after its test and what that chooses are reduced."""
        kind, test, one, other = self.store.nodes[term]
        chosen = one if self.ask(test) else other
        self.left_terms[term] = self.left_terms[chosen]
        self.chosen_terms[term] = self.chosen_terms[chosen]

    def apply_head(self, term):
        """Note what is left of an integer or an application, after its arguments are reduced."""
        kind, head, *arguments = self.store.nodes[term]
        left = [self.left_terms[argument] for argument in arguments]
        self.left_terms[term] = self.store.keep(kind, head, *left)
        self.chosen_terms[term] = term

    def reduce(self, term):
        """Make all choices inside of a term."""
        pending = [term]
        while pending:
            inner = pending[-1]
            missing = self.find_missing(inner)
            if missing:
                pending.extend(missing)
                continue
            pending.pop()
            if self.store.nodes[inner][0] == CHOICE:
                self.make_choice(inner)
            else:
                self.apply_head(inner)


class Search:
    """Looks for a world in which terms of a store differ."""

    def __init__(self, store):
        self.store = store
        self.solver = Solver()
        # The literals of tests and of pairs, and those of them whose clauses are not written yet.
        self.tests = {}
        self.pairs = {}
        self.unwritten_tests = []
        self.unwritten_pairs = []

    def literal_of_test(self, test):
        """Return the literal that tells that a test is true."""
        node = self.store.nodes[test]
        if node[0] == INTEGER:
            return NO if node[1] == 0 else YES
        if test not in self.tests:
            self.tests[test] = self.solver.add_variable()
            if node[0] == CHOICE:
                self.unwritten_tests.append(test)
        return self.tests[test]

    def literal_of_pair(self, one, other):
        """Return the literal that tells that two terms differ."""
        if one == other:
            return NO
        if self.surely_differ(one, other):
            return YES
        pair = (min(one, other), max(one, other))
        if pair not in self.pairs:
            self.pairs[pair] = self.solver.add_variable()
            self.unwritten_pairs.append(pair)
        return self.pairs[pair]

    def surely_differ(self, one, other):
        """Tell whether two terms with different numbers differ whatever the tests are."""
        if self.store.choiceless[one] and self.store.choiceless[other]:
            return True
        first, second = self.store.nodes[one], self.store.nodes[other]
        return first[0] != CHOICE and second[0] != CHOICE and first[:2] != second[:2]

    def write_test(self, test):
        """Write the clauses that a choice is true if what it chooses is true, and only then."""
        kind, asked, one, other = self.store.nodes[test]
        true = self.literal_of_test(test)
        condition = self.literal_of_test(asked)
        for branch, chosen in ((condition, one), (-condition, other)):
            literal = self.literal_of_test(chosen)
            self.solver.add_clause([-branch, -literal, true])
            self.solver.add_clause([-branch, literal, -true])

    def write_pair(self, one, other):
        """Write the clauses that two terms differ only if parts of them differ."""
        differ = self.literal_of_pair(one, other)
        first, second = self.store.nodes[one], self.store.nodes[other]
        if first[0] != CHOICE and second[0] != CHOICE:
            inner = [self.literal_of_pair(first[place], second[place]) for place in range(2, len(first))]
            self.solver.add_clause([-differ, *inner])
            return
        test = first[1] if first[0] == CHOICE else second[1]
        condition = self.literal_of_test(test)
        for branch, place in ((condition, 2), (-condition, 3)):
            # Where both ask the same test, both are followed at once.
            chosen = first[place] if first[:2] == (CHOICE, test) else one
            other_chosen = second[place] if second[:2] == (CHOICE, test) else other
            self.solver.add_clause([-differ, -branch, self.literal_of_pair(chosen, other_chosen)])

    def write_clauses(self):
        """Write all clauses that are still missing; they may need further ones."""
        while self.unwritten_tests or self.unwritten_pairs:
            if self.unwritten_tests:
                self.write_test(self.unwritten_tests.pop())
            else:
                one, other = self.unwritten_pairs.pop()
                self.write_pair(one, other)

    def relate(self, test, other_test):
        """Write the clauses that two tests are true together unless they differ."""
        differ = self.literal_of_pair(test, other_test)
        true, other_true = self.literal_of_test(test), self.literal_of_test(other_test)
        self.solver.add_clause([differ, -true, other_true])
        self.solver.add_clause([differ, true, -other_true])

    def read_solution(self, pairs):
        """Return a reading, by the solver's solution, of a pair that differs there."""
        answers = {test: self.solver.truth_of(self.tests[test]) for test in self.tests}
        reading = Reading(self.store, answers)
        for one, other in pairs:
            if self.solver.truth_of(self.literal_of_pair(one, other)):
                reading.reduce(one)
                reading.reduce(other)
                break
        return reading

    def finds_difference(self, pairs):
        """Tell whether there is a world in which the terms of one of the pairs differ."""
        self.solver.add_clause([self.literal_of_pair(one, other) for one, other in pairs])
        self.write_clauses()
        while self.solver.solve():
            reading = self.read_solution(pairs)
            if not reading.clashes:
                return True
            for test, other_test in list(reading.clashes):
                self.relate(test, other_test)
            self.write_clauses()
        return False
