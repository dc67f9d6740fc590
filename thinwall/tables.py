"""Tables: a house, and what each person cannot tell apart now."""

from thinwall.checks import check_group, check_people
from thinwall.errors import BadKey, SizeMismatch, UnlikeHouses
from thinwall.splits import Split, pooled, shared


class Table:
    """A house together with one split for each person."""

    def __init__(self, house, **splits):
        check_people(sorted(splits), house.people)
        for letter in sorted(splits):
            if splits[letter].size != house.size:
                raise SizeMismatch(house.size, splits[letter].size)
        self.house = house
        self._views = {letter: splits.get(letter, house.eyes(letter)) for letter in house.people}

    @classmethod
    def keyed(cls, house, key):
        """The table of the house that has the key."""
        if len(key) != len(house.people):
            raise BadKey()
        if not all([_is_marks(marks, house.size) for marks in key]):
            raise BadKey()
        splits = {letter: Split(list(marks)) for letter, marks in zip(house.people, key)}
        return cls(house, **splits)

    @property
    def key(self):
        """For each person the marks of the split."""
        return tuple([tuple(split.marks()) for split in self._views.values()])

    @property
    def room(self):
        """How often the splits can still become finer, at most."""
        return sum([split.size - len(split) for split in self._views.values()])

    def view(self, letter):
        """The split of the person."""
        check_people([letter], self.house.people)
        return self._views[letter]

    def pooled(self, group):
        """What the group cannot tell apart if they pool what they know."""
        splits = self._views_of(group)
        size = self.house.size
        return pooled(*splits, size=size)

    def shared(self, group):
        """The finest split such that all splits of the group are finer than it."""
        splits = self._views_of(group)
        size = self.house.size
        return shared(*splits, size=size)

    def finer(self, other):
        """Whether each person's split is finer than in the other table."""
        if self.house != other.house:
            raise UnlikeHouses("house")
        return all([split.finer(other.view(letter)) for letter, split in self._views.items()])

    def parted(self, **words):
        """The table in which people also tell cases with different words apart."""
        letters = sorted(words)
        check_people(letters, self.house.people)
        changed = {letter: self._views[letter].parted(words[letter]) for letter in letters}
        splits = {letter: changed.get(letter, view) for letter, view in self._views.items()}
        return Table(self.house, **splits)

    def __eq__(self, other):
        return isinstance(other, Table) and self.house == other.house and self._views == other._views

    def __ne__(self, other):
        return not self == other

    def __str__(self):
        return " ".join([f"{letter}:{split}" for letter, split in self._views.items()])

    def _views_of(self, group):
        check_group(group)
        check_people(group, self.house.people)
        return [self._views[letter] for letter in group]


def _is_marks(marks, size):
    """Whether the integers are the marks of a split of this size."""
    return len(marks) == size and Split(list(marks)).marks() == list(marks)
