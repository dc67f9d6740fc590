"""Deeds: what is said in each case, and who hears it."""

from thinwall.checks import check_letters, check_people, check_plain, check_told, is_letter
from thinwall.errors import BadLetter
from thinwall.reading import to_saying
from thinwall.sayings import Not, Truth
from thinwall.truths import cases_of, part_truths

SILENCE = "-"
EXCHANGED = {"yes": "no", "no": "yes", "unsure": "unsure"}


class Deed:
    """Nothing is said; the base class of all other deeds.

    Each kind keeps only those ears that have an effect as _ears, whom and what it
    names as _letters and _facts, and its text as _text.
    """

    KIND = "none"

    def __init__(self, **ears):
        self._complete([], [], {}, ears)

    def letters(self):
        """The letters of all people whom the deed names, ascending."""
        return self._letters

    def facts(self):
        """The names of facts in the sayings of the deed, ascending."""
        return list(self._facts)

    def ear(self, letter):
        """The saying that is true where the person hears the word."""
        check_letters([letter])
        return self._ears.get(letter, Truth(False))

    def said(self, table):
        """The word that is said in each case."""
        check_told(table.house, self)
        return [SILENCE for _ in range(table.house.size)]

    def heard(self, table, letter):
        """The word that the person hears in each case."""
        words = self.said(table)
        check_people([letter], table.house.people)
        return _heard(table, words, self.ear(letter))

    def __call__(self, table):
        said = self.said(table)
        words = {letter: _heard(table, said, self.ear(letter)) for letter in table.house.people}
        return table.parted(**words)

    def __eq__(self, other):
        return isinstance(other, Deed) and self._text == other._text

    def __ne__(self, other):
        return not self == other

    def __str__(self):
        return str(self._text)

    def _complete(self, people, what, conditions, ears):
        """Checks and keeps what the deed is made of.

        The people are who does it, and to whom. The list what has the saying that it is
        about, if there is one. The conditions are plain sayings under their titles.
        """
        given = {letter: to_saying(ears[letter]) for letter in sorted(ears)}
        _check_doers(people)
        check_letters(list(given))
        check_plain(list(conditions.values()) + list(given.values()))
        self._ears = _without_false({letter: ear for letter, ear in given.items() if letter not in people})
        told = what + list(conditions.values()) + list(self._ears.values())
        parts = [f": {saying}" for saying in what]
        for sayings in (_without_false(conditions), self._ears):
            parts.extend([f" / {title}: {saying}" for title, saying in sayings.items()])
        text = " ".join([self.KIND] + people) + "".join(parts)
        self._keep(people + list(self._ears), told, text)

    def _keep(self, people, told, text):
        """Keeps the text, and the letters and facts of the people and of what is told."""
        letters = people + [letter for part in told for letter in part.letters()]
        self._letters = "".join(sorted(set(letters)))
        self._facts = sorted({name for part in told for name in part.facts()})
        self._text = text


class Voice(Deed):
    """A voice says whether the saying is true."""

    KIND = "voice"

    def __init__(self, what, **ears):
        self.what = to_saying(what)
        self._complete([], [self.what], {}, ears)

    def said(self, table):
        """Yes where the saying is true, and no elsewhere."""
        check_told(table.house, self)
        return yes_or_no(table, self.what)


class Hint(Deed):
    """The person says yes, or is silent."""

    KIND = "hint"

    def __init__(self, who, what, **ears):
        self.who = who
        self.what = to_saying(what)
        self._complete([who], [self.what], {}, ears)

    def said(self, table):
        """Yes where the person knows that the saying is true."""
        check_told(table.house, self)
        words = answers(table, self.who, part_truths(table, self.what)[0])
        return [word if word == "yes" else SILENCE for word in words]

    def ear(self, letter):
        """The saying that is true where the person hears the word."""
        if letter == self.who:
            return Truth(True)
        return super().ear(letter)


class Tell(Hint):
    """The person says yes, no, or unsure, and may lie."""

    KIND = "tell"

    def __init__(self, who, what, *, lies="false", **ears):
        self.who = who
        self.what = to_saying(what)
        self.lies = to_saying(lies)
        self._complete([who], [self.what], {"lies": self.lies}, ears)

    @classmethod
    def aloud(cls, who, what, people):
        """What is told to all of these people."""
        # Also off a class below it is a Tell, so it is not made by cls.
        ears = {letter: Truth(True) for letter in people}
        return Tell(who, what, **ears)

    @classmethod
    def into(cls, who, to, what):
        """What is told into one ear."""
        told = to_saying(what)
        # A string such as "lies" would not be taken for an ear.
        check_letters([who, to])
        ears = {to: Truth(True)}
        return Tell(who, told, **ears)

    def said(self, table):
        """What the person answers, with yes and no exchanged where they lie."""
        check_told(table.house, self)
        words = answers(table, self.who, part_truths(table, self.what)[0])
        lying = cases_of(table, self.lies)
        return [EXCHANGED[word] if case in lying else word for case, word in enumerate(words)]


class Letter(Tell):
    """The person writes what a Tell would say."""

    KIND = "letter"

    def __init__(self, who, to, what, *, lies="false", lost="false", **ears):
        self.who = who
        self.to = to
        self.what = to_saying(what)
        self.lies = to_saying(lies)
        self.lost = to_saying(lost)
        self._complete([who, to], [self.what], {"lies": self.lies, "lost": self.lost}, ears)

    def ear(self, letter):
        """The saying that is true where the person reads the word."""
        if letter == self.to:
            return Not(self.lost)
        return super().ear(letter)


def yes_or_no(table, saying):
    """Yes for the cases in which the saying is true, and no for the others."""
    return ["yes" if truth else "no" for truth in part_truths(table, saying)[0]]


def answers(table, letter, truths):
    """What the person knows, in each case, of something that has these truths."""
    view = table.view(letter)
    return [_answer([truths[other] for other in view.cell(case)]) for case in range(table.house.size)]


def _answer(truths):
    if all(truths):
        return "yes"
    return "unsure" if any(truths) else "no"


def _heard(table, words, ear):
    """The words of the cases in which the ear is true, and nothing in the others."""
    cases = cases_of(table, ear)
    return [word if case in cases else SILENCE for case, word in enumerate(words)]


def _check_doers(people):
    """Raises an error for the first string that is no letter, or that stands before."""
    for at, letter in enumerate(people):
        if not is_letter(letter) or letter in people[:at]:
            raise BadLetter(letter)


def _without_false(sayings):
    """The sayings that are not equal to false, under their titles."""
    return {title: saying for title, saying in sayings.items() if saying != Truth(False)}
