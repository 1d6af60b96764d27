"""Looks for truth values of variables that satisfy clauses.

Variables are numbered from 1 on. A literal is the number of a variable, or its negative, which is true if the
variable is false. A clause is a list of literals of which one at least must be true.
"""

# The first variable of each solver is true: so these two are the literals of what is already decided.
YES = 1
NO = -1


class Solver:
    """A search that learns a new clause from each conflict, and goes back as far as that clause allows.

    A clause is watched through its first two literals: as long as neither of them is false, nothing follows from it.
    """

    def __init__(self):
        self.truths = [None]
        self.levels = [0]
        self.reasons = [None]
        self.watchers = {}
        # The true literals in the order in which they were found, and how many there were before each guess.
        self.trail = []
        self.guesses = []
        self.followed = 0
        self.first_free = 1
        self.is_hopeless = False
        self.add_clause([self.add_variable()])

    def add_variable(self):
        """Return a new variable."""
        variable = len(self.truths)
        self.truths.append(None)
        self.levels.append(0)
        self.reasons.append(None)
        self.watchers[variable] = []
        self.watchers[-variable] = []
        return variable

    def truth_of(self, literal):
        """Return whether a literal is true, or None if that is not known at present."""
        truth = self.truths[abs(literal)]
        return truth if truth is None or literal > 0 else not truth

    def add_clause(self, literals):
        """Add a clause, which gives up all guesses."""
        self.go_back(0)
        clause = []
        for literal in literals:
            if self.truth_of(literal) is True or -literal in clause:
                return
            if self.truth_of(literal) is None and literal not in clause:
                clause.append(literal)
        self.accept(clause)

    def accept(self, clause):
        """Keep a clause of which no literal is known to be true; what stands alone in it must be true."""
        if not clause:
            self.is_hopeless = True
        elif len(clause) == 1:
            self.set_true(clause[0], None)
        else:
            self.watchers[clause[0]].append(clause)
            self.watchers[clause[1]].append(clause)

    def set_true(self, literal, reason):
        """Note that a literal is true, and the clause from which that follows."""
        variable = abs(literal)
        self.truths[variable] = literal > 0
        self.levels[variable] = len(self.guesses)
        self.reasons[variable] = reason
        self.trail.append(literal)

    def go_back(self, level):
        """Give up the guesses beyond a level, and what follows from them."""
        if level >= len(self.guesses):
            return
        length = self.guesses[level]
        for literal in self.trail[length:]:
            self.truths[abs(literal)] = None
            self.first_free = min(self.first_free, abs(literal))
        del self.trail[length:]
        del self.guesses[level:]
        self.followed = length

    def follow(self):
        """Find all that follows; return a clause that cannot be satisfied then, or None."""
        while self.followed < len(self.trail):
            literal = self.trail[self.followed]
            self.followed += 1
            conflict = self.follow_false(-literal)
            if conflict is not None:
                return conflict
        return None

    def follow_false(self, literal):
        """Find what follows directly from a false literal; return a clause that cannot be satisfied, or None."""
        kept = []
        conflict = None
        for clause in list(self.watchers[literal]):
            if conflict is not None or not self.find_watcher(clause, literal):
                kept.append(clause)
                if conflict is None and not self.force(clause):
                    conflict = clause
        self.watchers[literal] = kept
        return conflict

    def find_watcher(self, clause, literal):
        """Watch a clause through another literal instead of this false one; tell whether there is one."""
        if clause[0] == literal:
            clause[0], clause[1] = clause[1], literal
        if self.truth_of(clause[0]) is True:
            return False
        for place in range(2, len(clause)):
            if self.truth_of(clause[place]) is not False:
                clause[1], clause[place] = clause[place], literal
                self.watchers[clause[1]].append(clause)
                return True
        return False

    def force(self, clause):
        """Make the first literal of a clause true, as all others are false; tell whether that is possible."""
        truth = self.truth_of(clause[0])
        if truth is None:
            self.set_true(clause[0], clause)
        return truth is not False

    def find_lesson(self, conflict):
        """Return a clause that follows and forbids the present guesses; only its first literal is of the last level."""
        level = len(self.guesses)
        met = set()
        lesson = []
        unexplained = 0
        place = len(self.trail)
        clause = conflict
        while True:
            for literal in clause:
                variable = abs(literal)
                if variable in met or self.levels[variable] == 0:
                    continue
                met.add(variable)
                if self.levels[variable] == level:
                    unexplained += 1
                else:
                    lesson.append(literal)
            place -= 1
            while abs(self.trail[place]) not in met:
                place -= 1
            unexplained -= 1
            if unexplained == 0:
                return [-self.trail[place], *lesson]
            clause = self.reasons[abs(self.trail[place])]

    def learn(self, conflict):
        """Learn from a clause that cannot be satisfied, and go back to where the lesson tells something new."""
        first, *others = self.find_lesson(conflict)
        others = sorted(others, key=lambda literal: self.levels[abs(literal)], reverse=True)
        lesson = [first, *others]
        self.go_back(self.levels[abs(others[0])] if others else 0)
        self.accept(lesson)
        if others:
            self.set_true(first, lesson)

    def guess(self):
        """Guess that a variable is false; tell whether there was one left."""
        while self.first_free < len(self.truths) and self.truths[self.first_free] is not None:
            self.first_free += 1
        if self.first_free == len(self.truths):
            return False
        self.guesses.append(len(self.trail))
        self.set_true(-self.first_free, None)
        return True

    def solve(self):
        """Tell whether all clauses can be satisfied; if so, each literal has a truth then."""
        while not self.is_hopeless:
            conflict = self.follow()
            if conflict is None:
                if not self.guess():
                    return True
            elif self.guesses:
                self.learn(conflict)
            else:
                self.is_hopeless = True
        return False
