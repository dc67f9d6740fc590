"""The plain way: answers for few and short rows, found by going through all of them."""

from thinwall.checks import is_group, is_sign
from thinwall.errors import BadHouse
from thinwall.houses import MOST_PEOPLE, House, all_rows, check_names
from thinwall.notes import check_notes
from thinwall.splits import check_size, next_marks


class Way:
    """Goes the rows of a play one after the other.

    What a deed does in a table is found once and then kept, under the number of the
    table and the sign, for the same few tables are met again and again.
    """

    def __init__(self, play):
        self._play = play
        self._tables = [play.start]
        self._numbers = {play.start.key: 0}
        self._behind = {}
        self._heard = {}

    def numbers(self, row):
        """The numbers of the tables on the way, from the first one to the one behind the row."""
        found = [0]
        for sign in row:
            found.append(self._number_behind(found[-1], sign))
        return found

    def hearing(self, row, letter):
        """For each deed of the row what the person hears of it in the cases."""
        return [self._words_at(number, sign, letter) for number, sign in zip(self.numbers(row), row)]

    def _number_behind(self, number, sign):
        if (number, sign) not in self._behind:
            table = self._play.after(sign, table=self._tables[number])
            if table.key not in self._numbers:
                self._numbers[table.key] = len(self._tables)
                self._tables.append(table)
            self._behind[(number, sign)] = self._numbers[table.key]
        return self._behind[(number, sign)]

    def _words_at(self, number, sign, letter):
        if (number, sign, letter) not in self._heard:
            deed = self._play.deed(sign)
            self._heard[(number, sign, letter)] = deed.heard(self._tables[number], letter)
        return self._heard[(number, sign, letter)]


def rows_of(signs, length):
    """All rows of this length over the signs, in alphabetical order."""
    kept = sorted({sign for sign in signs if is_sign(sign)})
    waiting = [""]
    while waiting:
        row = waiting.pop()
        if len(row) == length:
            yield row
        elif len(row) < length:
            waiting.extend([row + sign for sign in reversed(kept)])


def slow_names(play, length):
    """The rows of at most this length that lead to a table to which no earlier row leads."""
    way = Way(play)
    names = {}
    for many in range(length + 1):
        for row in rows_of(play.signs, many):
            number = way.numbers(row)[-1]
            if number not in names:
                names[number] = row
    return list(names.values())


def slow_fits(play, length, **notes):
    """The pairs of a row of at most this length and a case that fit the notes."""
    check_notes(play, notes)
    way = Way(play)
    found = []
    for many in range(length + 1):
        for row in rows_of(play.signs, many):
            heard = {letter: way.hearing(row, letter) for letter in notes}
            found.extend([(row, case) for case in range(play.house.size) if _fits_all(notes, row, heard, case)])
    return found


def all_houses(facts, size, people):
    """All houses with these facts, this number of cases, and these people, whose rows of facts ascend."""
    names = list(facts)
    check_names(names)
    check_size(size)
    if not is_group(people) or len(people) > MOST_PEOPLE:
        raise BadHouse("people")
    digits = all_rows(len(names))
    chosen = [0] * size
    while chosen is not None:
        rows = [digits[place] for place in chosen]
        views = [[0] * size for _ in people]
        while views is not None:
            eyes = dict(zip(people, views))
            yield House(names, rows, **eyes)
            views = _next_views(views)
        chosen = _next_chosen(chosen, len(digits))


def _fits_all(notes, row, heard, case):
    """Whether the row and the case fit the notes of all listeners, who hear this in the cases."""
    return all([_fits(notes[letter], row, [words[case] for words in heard[letter]]) for letter in notes])


def _fits(entries, row, words):
    """Whether the row, of which these words are heard, can be cut into parts for the entries."""
    # For each number of deeds, whether the entries so far can stand for so many first ones.
    able = [True] + [False for _ in row]
    for which, noted in entries:
        fitting = [which in ("?", "*", sign) and noted in ("?", word) for sign, word in zip(row, words)]
        able = _able_with_row(able, fitting) if which == "*" else _able_with_one(able, fitting)
    return able[-1]


def _able_with_row(able, fitting):
    """The same with one entry more that stands for any number of fitting deeds."""
    found = [able[0]]
    for before, fits in zip(able[1:], fitting):
        found.append(before or (found[-1] and fits))
    return found


def _able_with_one(able, fitting):
    """The same with one entry more that stands for one fitting deed."""
    return [False] + [before and fits for before, fits in zip(able, fitting)]


def _next_chosen(chosen, many):
    """The next list of so many numbers that do not descend, or None."""
    for at in reversed(range(len(chosen))):
        if chosen[at] + 1 < many:
            return chosen[:at] + [chosen[at] + 1 for _ in chosen[at:]]
    return None


def _next_views(views):
    """The next list of marks for each person, or None."""
    for at in reversed(range(len(views))):
        following = next_marks(views[at])
        if following is not None:
            return views[:at] + [following] + [[0] * len(marks) for marks in views[at + 1:]]
    return None
