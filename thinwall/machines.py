"""Machines: states, and a word for each state and each sign."""

from thinwall.checks import check_row, is_sign
from thinwall.errors import BadMachine, UnlikeMachines
from thinwall.splits import first_places


class Machine:
    """States with a next state and a word for each sign."""

    def __init__(self, signs, steps, words, *, first=0):
        _check_machine(signs, steps, words, first)
        self.signs = signs
        self.first = first
        self._steps = [list(following) for following in steps]
        self._words = [list(told) for told in words]

    def steps(self):
        """For each state the next states, one for each sign."""
        return [list(following) for following in self._steps]

    def words(self):
        """For each state the words, one for each sign."""
        return [list(told) for told in self._words]

    def after(self, row):
        """The state behind the row."""
        return self._way(row)[-1]

    def parting(self, other):
        """The least row for which the words of the two machines differ, or None."""
        pairs, steps = self._met(other)
        for number, (ours, theirs) in enumerate(pairs):
            for sign, word, told in zip(self.signs, self._words[ours], other._words[theirs]):
                if word != told:
                    return least_row(self.signs, steps, number) + sign
        return None

    def pairing(self, other):
        """The pairs of states that the same rows lead to, or None if the machines do not agree."""
        pairs, _ = self._met(other)
        if not all([self._words[ours] == other._words[theirs] for ours, theirs in pairs]):
            return None
        return sorted(pairs)

    def least(self):
        """The machine with the fewest states that agrees with this one."""
        marks = self._agreeing()
        # The mark of a state is itself a state, which agrees with it.
        kept, steps = reached(marks[self.first], lambda mark: [marks[state] for state in self._steps[mark]])
        words = [self._words[mark] for mark in kept]
        return Machine(self.signs, steps, words)

    def rows_with(self, words):
        """All rows, in alphabetical order, for which the words are exactly these."""
        wanted = list(words)
        able = self._able(wanted)
        waiting = [("", self.first)]
        while waiting:
            row, state = waiting.pop()
            if not able[len(row)][state]:
                continue
            if len(row) < len(wanted):
                waiting.extend(self._longer(row, state, wanted[len(row)]))
            else:
                yield row

    def __call__(self, row):
        return [self._words[state][self.signs.find(sign)] for state, sign in zip(self._way(row), row)]

    def __eq__(self, other):
        return (isinstance(other, Machine) and self.signs == other.signs and self._steps == other._steps
                and self._words == other._words and self.first == other.first)

    def __ne__(self, other):
        return not self == other

    def __len__(self):
        return len(self._steps)

    def _way(self, row):
        """The states before the row, between its signs, and behind it."""
        check_row(row, self.signs)
        states = [self.first]
        for sign in row:
            states.append(self._steps[states[-1]][self.signs.find(sign)])
        return states

    def _met(self, other):
        """What reached(..) returns for the pairs of states that the same rows lead to."""
        _check_same_signs(self, other)
        return reached((self.first, other.first),
                       lambda pair: list(zip(self._steps[pair[0]], other._steps[pair[1]])))

    def _agreeing(self):
        """For each state the first one from which all rows give the same words."""
        marks = first_places([tuple(told) for told in self._words])
        before = []
        while marks != before:
            before = marks
            marks = first_places([(mark, tuple([before[state] for state in following]))
                                  for mark, following in zip(before, self._steps)])
        return marks

    def _able(self, words):
        """For each number of words given, and each state, whether the other words can follow."""
        able = [[True for _ in self._steps]]
        for word in reversed(words):
            behind = able[-1]
            able.append([any([told == word and behind[state] for told, state in zip(telling, following)])
                         for telling, following in zip(self._words, self._steps)])
        return able[::-1]

    def _longer(self, row, state, word):
        """The rows with one more sign, and the states behind them, where this word is given; the last one first."""
        longer = [(row + sign, behind) for sign, told, behind in zip(self.signs, self._words[state], self._steps[state])
                  if told == word]
        return longer[::-1]


def pairing_holds(one, other, pairs):
    """Whether the pairs of states show that the two machines agree."""
    _check_same_signs(one, other)
    listed = {pair: True for pair in pairs}
    if (one.first, other.first) not in listed:
        return False
    if not all([0 <= ours < len(one) and 0 <= theirs < len(other) for ours, theirs in pairs]):
        return False
    words, told = one.words(), other.words()
    if not all([words[ours] == told[theirs] for ours, theirs in pairs]):
        return False
    steps, ways = one.steps(), other.steps()
    return all([pair in listed for ours, theirs in pairs for pair in zip(steps[ours], ways[theirs])])


def paired(machine, *more):
    """The machine that runs the machines side by side."""
    machines = [machine, *more]
    for other in more:
        _check_same_signs(machine, other)
    steps = [one.steps() for one in machines]
    words = [one.words() for one in machines]
    first = tuple([one.first for one in machines])
    found, numbers = reached(first, lambda states: _side_by_side(steps, states))
    told = [["+".join(parts) for parts in _side_by_side(words, states)] for states in found]
    return Machine(machine.signs, numbers, told)


def reached(first, following):
    """The states that are reached from the first one, and the steps between them.

    following(state) is the list of the next states, one for each sign in order. The
    states are in the order of the least rows that lead to them, and a step is the
    number of a state in this order.
    """
    states = [first]
    numbers = {first: 0}
    steps = []
    while len(steps) < len(states):
        behind = following(states[len(steps)])
        for state in behind:
            if state not in numbers:
                numbers[state] = len(states)
                states.append(state)
        steps.append([numbers[state] for state in behind])
    return states, steps


def least_row(signs, steps, number):
    """The least row that leads from the first state to this one, in what reached(..) returns."""
    before = {0: (0, "")}
    for at, following in enumerate(steps):
        for sign, behind in zip(signs, following):
            if behind not in before:
                before[behind] = (at, sign)
    row = []
    state = number
    while state != 0:
        state, sign = before[state]
        row.append(sign)
    return "".join(row[::-1])


def _check_machine(signs, steps, words, first):
    if not all([is_sign(sign) for sign in signs]) or list(signs) != sorted(set(signs)):
        raise BadMachine("signs")
    if len(steps) == 0 or any([len(following) != len(signs) for following in steps]):
        raise BadMachine("steps")
    if any([state < 0 or state >= len(steps) for following in steps for state in following]):
        raise BadMachine("steps")
    if len(words) != len(steps) or any([len(told) != len(signs) for told in words]):
        raise BadMachine("words")
    if first < 0 or first >= len(steps):
        raise BadMachine("first")


def _check_same_signs(one, other):
    if one.signs != other.signs:
        raise UnlikeMachines()


def _side_by_side(rows, states):
    """For each sign the tuple of what stands in the row of the state of each machine."""
    chosen = [row[state] for row, state in zip(rows, states)]
    return list(zip(*chosen))
