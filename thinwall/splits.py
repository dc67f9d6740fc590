"""Splits of cases: what somebody cannot tell apart."""

from thinwall.checks import check_case
from thinwall.errors import BadSize, BadText, SizeMismatch


class Split:
    """A division of the cases into cells."""

    MOST = 12

    def __init__(self, marks):
        check_size(len(marks))
        self.size = len(marks)
        self._marks = first_places(marks)

    @classmethod
    def whole(cls, size):
        """The split with one cell."""
        check_size(size)
        return cls([0 for _ in range(size)])

    @classmethod
    def apart(cls, size):
        """The split with one cell for each case."""
        check_size(size)
        return cls(list(range(size)))

    @staticmethod
    def read(text):
        """The split that has exactly this text."""
        cells = [cell.split(",") for cell in text.split("|")]
        size = sum([len(cell) for cell in cells])
        if size > Split.MOST:
            raise BadText(text)
        split = Split([_place_of_word(cells, str(case)) for case in range(size)])
        # Whatever is wrong in the text is missing in the text of this split.
        if str(split) != text:
            raise BadText(text)
        return split

    def marks(self):
        """For each case the smallest case of its cell."""
        return list(self._marks)

    def cells(self):
        """The cells, ordered by their smallest cases."""
        return [self.cell(case) for case, mark in enumerate(self._marks) if case == mark]

    def cell(self, case):
        """The cell of the case."""
        check_case(case, self.size)
        return [other for other, mark in enumerate(self._marks) if mark == self._marks[case]]

    def together(self, first, second):
        """Whether the two cases lie in one cell."""
        check_case(first, self.size)
        check_case(second, self.size)
        return self._marks[first] == self._marks[second]

    def finer(self, other):
        """Whether each cell of this split lies within a cell of the other one."""
        _check_same_size(self, other)
        return all([other.together(case, mark) for case, mark in enumerate(self._marks)])

    def parted(self, words):
        """The split that also tells cases with different words apart."""
        if len(words) != self.size:
            raise SizeMismatch(self.size, len(words))
        return Split(first_places(list(zip(self._marks, words))))

    def merged(self, first, second):
        """The split in which the cells of the two cases are one cell."""
        check_case(first, self.size)
        check_case(second, self.size)
        return Split(_merged_marks(self._marks, first, second))

    def __and__(self, other):
        return self.parted(other.marks())

    def __or__(self, other):
        _check_same_size(self, other)
        marks = self.marks()
        for case, mark in enumerate(other.marks()):
            marks = _merged_marks(marks, case, mark)
        return Split(marks)

    def __eq__(self, other):
        return isinstance(other, Split) and self._marks == other._marks

    def __ne__(self, other):
        return not self == other

    def __len__(self):
        return len(self.cells())

    def __str__(self):
        return "|".join([",".join([str(case) for case in cell]) for cell in self.cells()])

    def __repr__(self):
        return f"Split({self._marks})"


def pooled(*splits, size):
    """What cannot be told apart by those who pool what they know."""
    result = Split.whole(size)
    for split in splits:
        result = result & split
    return result


def shared(*splits, size):
    """The finest split such that all the splits are finer than it."""
    result = Split.apart(size)
    for split in splits:
        result = result | split
    return result


def first_places(items):
    """For each item the index of the first one that is equal to it."""
    # The later of two equal keys wins, so the first place has to come last.
    firsts = {items[place]: place for place in reversed(range(len(items)))}
    return [firsts[item] for item in items]


def splits_of(size):
    """All splits of the size, in ascending order of their marks."""
    check_size(size)
    marks = [0 for _ in range(size)]
    while marks is not None:
        yield Split(marks)
        marks = next_marks(marks)


def check_size(size):
    """Raises an error if no split has this size."""
    if size < 1 or size > Split.MOST:
        raise BadSize(size)


def _check_same_size(one, other):
    if one.size != other.size:
        raise SizeMismatch(one.size, other.size)


def _place_of_word(cells, word):
    """The index of the first cell that contains the word, or -1."""
    for place, cell in enumerate(cells):
        if word in cell:
            return place
    return -1


def _merged_marks(marks, first, second):
    """The marks behind the cells of the two cases have become one cell."""
    low = min(marks[first], marks[second])
    high = max(marks[first], marks[second])
    return [low if mark == high else mark for mark in marks]


def next_marks(marks):
    """The marks of the next split in ascending order, or None."""
    for case in reversed(range(len(marks))):
        if marks[case] < case:
            return marks[:case] + [_next_mark(marks, case)] + [0 for _ in marks[case + 1:]]
    return None


def _next_mark(marks, case):
    """The next greater mark that the case can have behind the cases before it."""
    for mark in range(marks[case] + 1, case):
        if marks[mark] == mark:
            return mark
    return case
