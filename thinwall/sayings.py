"""Sayings: what is true or false in a case."""

from thinwall.checks import check_group, is_name
from thinwall.errors import BadCount, BadName

MOST_NESTED = 12


class Saying:
    """The base class of the eight kinds of sayings.

    Each kind keeps its direct parts as _below and its text as _text.
    """

    # How tightly the text holds together: the parts of an And need at least 2.
    BOND = 3

    def parts(self):
        """The saying itself and all parts of its parts, duplicates included."""
        found = []
        waiting = [self]
        while waiting:
            part = waiting.pop()
            found.append(part)
            waiting.extend(part._below[::-1])
        return found

    def facts(self):
        """The names of facts in the saying, ascending."""
        return sorted({part.name for part in self.parts() if isinstance(part, Fact)})

    def letters(self):
        """The letters of people in the saying, ascending."""
        groups = [part.group for part in self.parts() if is_knowing(part)]
        return "".join(sorted(set("".join(groups))))

    def filled(self, **sayings):
        """The saying with other sayings in the places of some facts."""
        return folded(self, lambda part, below: _refilled(part, below, sayings))[0]

    @property
    def plain(self):
        """Whether the saying speaks of nobody's knowledge."""
        return not any([is_knowing(part) for part in self.parts()])

    @property
    def depth(self):
        """How many parts about knowledge lie within one another at most."""
        deepest = 0
        waiting = [(self, 0)]
        while waiting:
            part, depth = waiting.pop()
            if is_knowing(part):
                depth += 1
            deepest = max(deepest, depth)
            waiting.extend([(inner, depth) for inner in part._below])
        return deepest

    @property
    def positive(self):
        """Whether it speaks of knowledge only where more knowledge keeps it true."""
        return all([part.inner.plain for part in self.parts() if isinstance(part, (Not, Whether))])

    def __invert__(self):
        return Not(self)

    def __and__(self, other):
        return And(self, other)

    def __or__(self, other):
        return Or(self, other)

    def __eq__(self, other):
        return isinstance(other, Saying) and self._text == other._text

    def __ne__(self, other):
        return not self == other

    def __len__(self):
        return len(self.parts())

    def __str__(self):
        return str(self._text)

    def __repr__(self):
        return f"Saying('{self._text}')"


class Truth(Saying):
    """Always or never true."""

    def __init__(self, value):
        self.value = value
        self._below = []
        self._text = "true" if value else "false"


class Fact(Saying):
    """The fact holds."""

    def __init__(self, name):
        if not is_name(name):
            raise BadName(name)
        self.name = name
        self._below = []
        self._text = name


class Not(Saying):
    """The inner saying is false."""

    def __init__(self, inner):
        self.inner = inner
        self._below = [inner]
        self._text = f"~{_bound(inner, 3)}"


class And(Saying):
    """Both sayings are true."""

    BOND = 2

    def __init__(self, first, second):
        self.first = first
        self.second = second
        self._below = [first, second]
        self._text = f"{_bound(first, 2)} & {_bound(second, 3)}"


class Or(Saying):
    """At least one of both sayings is true."""

    BOND = 1

    def __init__(self, first, second):
        self.first = first
        self.second = second
        self._below = [first, second]
        self._text = f"{_bound(first, 1)} | {_bound(second, 2)}"


class Knows(Saying):
    """Each person of the group knows that the inner saying is true."""

    def __init__(self, group, inner):
        check_group(group)
        self.group = group
        self.inner = inner
        self._below = [inner]
        self._text = f"[{group}]{_bound(inner, 3)}"


class Whether(Saying):
    """Each person of the group knows whether the inner saying is true."""

    def __init__(self, group, inner):
        check_group(group)
        self.group = group
        self.inner = inner
        self._below = [inner]
        self._text = f"[{group}?]{_bound(inner, 3)}"


class Common(Saying):
    """All of the group know it, all know that all know it, and so on."""

    def __init__(self, group, inner):
        check_group(group)
        self.group = group
        self.inner = inner
        self._below = [inner]
        self._text = f"[{group}*]{_bound(inner, 3)}"


def nested(group, saying, count):
    """The saying with Knows written around it several times."""
    check_group(group)
    if count < 0 or count > MOST_NESTED:
        raise BadCount(count)
    result = saying
    for _ in range(count):
        result = Knows(group, result)
    return result


def is_knowing(saying):
    """Whether the saying itself, not only a part of it, speaks of what people know."""
    return isinstance(saying, (Knows, Whether, Common))


def folded(saying, combine):
    """For each part, in the order of parts(), what combine(part, below) returns.

    The list below has what it returned for the direct parts of the part. There is
    no recursion, because a long saying may lie within itself at each of its parts.
    """
    results = []
    waiting = []
    for part in reversed(saying.parts()):
        below = [waiting.pop() for _ in part._below]
        result = combine(part, below)
        results.append(result)
        waiting.append(result)
    return results[::-1]


def plain_truths(part, below, facts, rows):
    """The truths of a plain part in the cases with these rows of facts."""
    if isinstance(part, Truth):
        return [part.value for _ in rows]
    if isinstance(part, Fact):
        place = facts.index(part.name)
        return [row[place] == "1" for row in rows]
    if isinstance(part, Not):
        return [not truth for truth in below[0]]
    if isinstance(part, And):
        return [first and second for first, second in zip(below[0], below[1])]
    return [first or second for first, second in zip(below[0], below[1])]


def _bound(saying, bond):
    """The text of a part, in parentheses if it holds together less tightly than asked."""
    if saying.BOND < bond:
        return f"({saying})"
    return str(saying)


def _refilled(part, below, sayings):
    """The part over other direct parts; a fact may be replaced by a saying."""
    if isinstance(part, Truth):
        return part
    if isinstance(part, Fact):
        return sayings.get(part.name, part)
    if isinstance(part, Not):
        return Not(below[0])
    if isinstance(part, And):
        return And(below[0], below[1])
    if isinstance(part, Or):
        return Or(below[0], below[1])
    if isinstance(part, Knows):
        return Knows(part.group, below[0])
    if isinstance(part, Whether):
        return Whether(part.group, below[0])
    return Common(part.group, below[0])
