"""Houses: facts, cases, and people who cannot tell some cases apart."""

from thinwall.checks import (check_case, check_facts, check_like_houses, check_people, check_plain,
                             is_letter, is_name)
from thinwall.errors import BadHouse, TooMany, UnknownCase
from thinwall.reading import to_saying
from thinwall.sayings import folded, plain_truths
from thinwall.splits import Split

MOST_FACTS = 6
MOST_PEOPLE = 4


class House:
    """Facts, a row of facts for each case, and the eyes of the people."""

    def __init__(self, facts, rows, **eyes):
        _check_house(facts, rows, eyes)
        if any([len(marks) != len(rows) for marks in eyes.values()]):
            raise BadHouse("eyes")
        self.size = len(rows)
        self.people = "".join(sorted(eyes))
        self._facts = list(facts)
        self._rows = list(rows)
        self._eyes = {letter: Split(eyes[letter]) for letter in self.people}

    @classmethod
    def seen(cls, facts, rows, **sees):
        """The house in which each person sees some facts and nothing else."""
        eyes = _eyes_that_see(facts, rows, sees)
        return cls(facts, rows, **eyes)

    @classmethod
    def matching(cls, facts, saying, **sees):
        """The house of all rows of facts in which the plain saying is true."""
        rows = _matching_rows(facts, to_saying(saying))
        eyes = _eyes_that_see(facts, rows, sees)
        return cls(facts, rows, **eyes)

    def facts(self):
        """The names of the facts."""
        return list(self._facts)

    def rows(self):
        """The rows of facts of the cases."""
        return list(self._rows)

    def eyes(self, letter):
        """What the person cannot tell apart at the beginning."""
        check_people([letter], self.people)
        return self._eyes[letter]

    def fact_holds(self, case, name):
        """Whether the fact holds in the case."""
        check_case(case, self.size)
        check_facts([name], self._facts)
        return self._rows[case][self._facts.index(name)] == "1"

    def kept(self, cases):
        """The house with only these cases, in this order."""
        for at, case in enumerate(cases):
            check_case(case, self.size)
            if case in cases[:at]:
                raise UnknownCase(case)
        rows = [self._rows[case] for case in cases]
        eyes = {letter: _kept_marks(split, cases) for letter, split in self._eyes.items()}
        return House(self._facts, rows, **eyes)

    def __eq__(self, other):
        return (isinstance(other, House) and self._facts == other._facts
                and self._rows == other._rows and self._eyes == other._eyes)

    def __ne__(self, other):
        return not self == other

    def __len__(self):
        return len(self._rows)


def beside(one, other):
    """The house with the cases of both, which nobody takes for each other."""
    check_like_houses(one, other)
    if one.size + other.size > Split.MOST:
        raise TooMany(Split.MOST)
    facts = one.facts()
    rows = one.rows() + other.rows()
    eyes = {letter: _marks_beside(one.eyes(letter), other.eyes(letter)) for letter in one.people}
    return House(facts, rows, **eyes)


def check_names(facts):
    """Raises an error if the strings cannot be the facts of a house."""
    if len(facts) > MOST_FACTS or len(set(facts)) < len(facts):
        raise BadHouse("facts")
    if not all([is_name(name) for name in facts]):
        raise BadHouse("facts")


def _check_house(facts, rows, people):
    """Checks all of a house but what the people see."""
    check_names(facts)
    if len(rows) < 1 or len(rows) > Split.MOST:
        raise BadHouse("rows")
    if not all([is_row(row, facts) for row in rows]):
        raise BadHouse("rows")
    if len(people) < 1 or len(people) > MOST_PEOPLE:
        raise BadHouse("people")
    if not all([is_letter(letter) for letter in people]):
        raise BadHouse("people")


def is_row(row, facts):
    """Whether the string is a row of these facts."""
    return len(row) == len(facts) and all([digit in ("0", "1") for digit in row])


def _eyes_that_see(facts, rows, sees):
    """For each person the marks of the cases that agree on the facts the person sees."""
    # All is checked before the keywords are passed on, for one of them may be called "rows".
    _check_house(facts, rows, sees)
    for letter in sorted(sees):
        check_facts(sees[letter], facts)
    return {letter: _marks_of_seen(facts, rows, sees[letter]) for letter in sees}


def _marks_of_seen(facts, rows, names):
    places = [facts.index(name) for name in names]
    words = ["".join([row[place] for place in places]) for row in rows]
    return Split.whole(len(rows)).parted(words).marks()


def _matching_rows(facts, saying):
    """All rows of facts, ascending, in which the plain saying is true."""
    check_names(facts)
    check_plain([saying])
    check_facts(saying.facts(), facts)
    rows = all_rows(len(facts))
    truths = folded(saying, lambda part, below: plain_truths(part, below, facts, rows))[0]
    found = [row for row, truth in zip(rows, truths) if truth]
    if len(found) > Split.MOST:
        raise TooMany(Split.MOST)
    return found


def all_rows(length):
    """All rows of so many facts, in ascending order."""
    rows = [""]
    for _ in range(length):
        rows = [row + digit for row in rows for digit in "01"]
    return rows


def _kept_marks(split, cases):
    marks = split.marks()
    return [marks[case] for case in cases]


def _marks_beside(one, other):
    return one.marks() + [one.size + mark for mark in other.marks()]
