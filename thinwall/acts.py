"""More deeds: looking, calling, and one of two deeds in turn."""

from thinwall.checks import check_letters, check_plain, check_told
from thinwall.deeds import SILENCE, Deed, answers, yes_or_no
from thinwall.errors import BadTurn
from thinwall.reading import to_saying
from thinwall.sayings import And, Not, Or
from thinwall.truths import cases_of, part_truths


class Look(Deed):
    """The person takes in whether the saying is true, and nobody else learns anything."""

    KIND = "look"

    def __init__(self, who, what, *, dim="false"):
        self.who = who
        self.what = to_saying(what)
        self.dim = to_saying(dim)
        check_letters([who])
        check_plain([self.what])
        self._complete([who], [self.what], {"dim": self.dim}, {})

    def said(self, table):
        """Yes where the saying is true, and no elsewhere, also where it is dim."""
        check_told(table.house, self)
        return yes_or_no(table, self.what)

    def ear(self, letter):
        """The saying that is true where the person takes the word in."""
        if letter == self.who:
            return Not(self.dim)
        return super().ear(letter)


class Call(Deed):
    """Everybody who knows whether the saying is true calls at once."""

    KIND = "call"

    def __init__(self, what, **ears):
        self.what = to_saying(what)
        self._complete([], [self.what], {}, ears)

    def said(self, table):
        """The letters of those who call."""
        check_told(table.house, self)
        truths = part_truths(table, self.what)[0]
        known = {letter: answers(table, letter, truths) for letter in table.house.people}
        return [_callers(known, case) for case in range(table.house.size)]


class Turn(Deed):
    """One of two deeds is done, depending on the case."""

    KIND = "turn"

    def __init__(self, when, first, second):
        self.when = to_saying(when)
        self.first = first
        self.second = second
        check_plain([self.when])
        if isinstance(first, Turn) or isinstance(second, Turn):
            raise BadTurn()
        self._keep([], [self.when, first, second], f"{self.KIND} {self.when} ?? {first} :: {second}")

    def said(self, table):
        """The word of the deed that is done."""
        check_told(table.house, self)
        one = self.first.said(table)
        other = self.second.said(table)
        cases = cases_of(table, self.when)
        return [one[case] if case in cases else other[case] for case in range(table.house.size)]

    def ear(self, letter):
        """The saying that is true where the person hears the word of the deed that is done."""
        one = self.first.ear(letter)
        other = self.second.ear(letter)
        return Or(And(self.when, one), And(Not(self.when), other))


def _callers(known, case):
    """The letters of the people who are not unsure in the case."""
    letters = "".join([letter for letter in known if known[letter][case] != "unsure"])
    return letters or SILENCE
