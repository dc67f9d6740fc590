"""Notes: what somebody finds who knows the play, but neither the case nor the row."""

from thinwall.checks import check_case, check_people, check_told
from thinwall.errors import BadNotes
from thinwall.lots import tables_of, ways_of
from thinwall.reading import to_saying
from thinwall.truths import cases_of

ANY = "?"
ANY_ROW = "*"


class Listeners:
    """The notes of some people, and how deeds use up their entries.

    The tuples of the numbers of entries that are used up are numbered in ascending
    order. Several of them at once are an integer, a mask, that has the bits of their
    numbers, because a deed then moves all of them in a few steps. If one listener
    uses up one entry more, the number of the tuple grows by this listener's stride.
    """

    def __init__(self, lot, notes):
        check_notes(lot.play, notes)
        self.used = [()]
        self._letters = sorted(notes)
        self._entries = [[(which, word) for which, word in notes[letter]] for letter in self._letters]
        for noted in self._entries:
            self.used = [used + (many,) for used in self.used for many in range(len(noted) + 1)]
        self._strides = [_stride(self._entries[at + 1:]) for at in range(len(self._entries))]
        # For each listener and each of the entries the mask of the tuples in which it is the next one.
        self._next = [[self._mask_of_next(at, many) for many in range(len(entries))]
                      for at, entries in enumerate(self._entries)]
        self.ways = ways_of(lot)
        self._moves = [self._moves_from(lot.play, table) for table in tables_of(lot)]

    def all_used(self):
        """The mask of the tuple in which all entries are used up."""
        return 1 << (len(self.used) - 1)

    def passed(self, mask):
        """The mask with all that is reached when entries with "*" are passed over."""
        found = mask
        for entries, places, stride in zip(self._entries, self._next, self._strides):
            for (which, _), place in zip(entries, places):
                if which == ANY_ROW:
                    found = found | ((found & place) << stride)
        return found

    def passing(self, mask):
        """The mask with all from which entries with "*" can be passed over into it."""
        found = mask
        for entries, places, stride in zip(self._entries, self._next, self._strides):
            for (which, _), place in reversed(list(zip(entries, places))):
                if which == ANY_ROW:
                    found = found | ((found >> stride) & place)
        return found

    def moved(self, number, sign, case, mask):
        """What the deed leads to, in the table of this number, if this is the case."""
        found = mask
        for stays, goes, stride in self._moves[number][sign][case]:
            found = (found & stays) | ((found & goes) << stride)
        return found

    def moving(self, number, sign, case, mask):
        """From what the deed leads into the mask, in the table of this number, if this is the case."""
        found = mask
        for stays, goes, stride in self._moves[number][sign][case]:
            found = (found & stays) | ((found >> stride) & goes)
        return found

    def _mask_of_next(self, at, many):
        """The mask of the tuples in which the listener at this index has used up so many entries."""
        return sum([1 << number for number, used in enumerate(self.used) if used[at] == many])

    def _moves_from(self, play, table):
        """For each sign and each case the list of the moves of the listeners."""
        moves = {}
        for sign in play.signs:
            deed = play.deed(sign)
            heard = [deed.heard(table, letter) for letter in self._letters]
            moves[sign] = [[self._move(at, sign, words[case]) for at, words in enumerate(heard)]
                           for case in range(table.house.size)]
        return moves

    def _move(self, at, sign, word):
        """Where the deed leaves the number of a listener who hears the word, where it raises it, and the stride."""
        stays = 0
        goes = 0
        for (which, noted), place in zip(self._entries[at], self._next[at]):
            if noted in (ANY, word) and which == ANY_ROW:
                stays = stays | place
            elif noted in (ANY, word) and which in (ANY, sign):
                goes = goes | place
        return (stays, goes, self._strides[at])


class Find:
    """What fits the notes of some people of the house.

    A triple (row, number, masks) of _found has for each case the tuples of used up
    entries with which this row, and no earlier one, leads to the table of the number.
    """

    def __init__(self, lot, **notes):
        self._lot = lot
        self._listeners = Listeners(lot, notes)
        self._found = _reached_first(self._listeners, lot.play)

    def cases(self):
        """The cases that fit together with some row."""
        return sorted({case for _, _, fitting in self._fits() for case in fitting})

    def first_fit(self):
        """The least row that fits with some case, and the smallest case for it, or None."""
        for row, _, fitting in self._fits():
            if fitting:
                return (row, fitting[0])
        return None

    def ends(self):
        """The pairs of the name of a table and a case with which rows that lead to the table fit."""
        names = self._lot.names()
        places = sorted({(number, case) for _, number, fitting in self._fits() for case in fitting})
        return [(names[number], case) for number, case in places]

    def against(self, saying):
        """The least row that fits with a case in which the saying is false behind it, and this case, or None."""
        told = to_saying(saying)
        # This raises the errors of the saying.
        truths = [cases_of(table, told) for table in tables_of(self._lot)]
        for row, number, fitting in self._fits():
            wrong = [case for case in fitting if case not in truths[number]]
            if wrong:
                return (row, wrong[0])
        return None

    def fitting_rows(self, case, length):
        """All rows of this length that fit with the case, in alphabetical order."""
        check_case(case, self._lot.play.house.size)
        able = self._able(case, length)
        waiting = [("", 0, self._listeners.passed(1))]
        while waiting:
            row, number, mask = waiting.pop()
            left = length - len(row)
            if left < 0 or mask & able[left][number] == 0:
                continue
            if left > 0:
                waiting.extend(self._longer(case, row, number, mask))
            else:
                yield row

    def stands(self):
        """All stands that moves lead to from the first stands."""
        names = self._lot.names()
        reached = [[0] * self._lot.play.house.size for _ in names]
        for _, number, masks in self._found:
            reached[number] = [mask | known for mask, known in zip(masks, reached[number])]
        return [(used, name, case) for place, used in enumerate(self._listeners.used)
                for name, masks in zip(names, reached) for case, mask in enumerate(masks) if (mask >> place) & 1 == 1]

    def _fits(self):
        """The rows of _found with the numbers of their tables and the cases that fit with them for the first time."""
        last = self._listeners.all_used()
        return [(row, number, [case for case, mask in enumerate(masks) if mask & last != 0])
                for row, number, masks in self._found]

    def _able(self, case, length):
        """For each number of deeds and each table the mask of those from which so many deeds can lead to a fit."""
        last = self._listeners.passing(self._listeners.all_used())
        able = [[last for _ in self._listeners.ways]]
        for _ in range(length):
            able.append([self._able_before(case, number, able[-1]) for number in range(len(self._listeners.ways))])
        return able

    def _able_before(self, case, number, able):
        """The mask of those in the table of this number from which one deed leads into the masks."""
        found = 0
        for sign, behind in self._listeners.ways[number].items():
            found = found | self._listeners.moving(number, sign, case, able[behind])
        return self._listeners.passing(found)

    def _longer(self, case, row, number, mask):
        """What one more deed leads to; the last sign comes first."""
        longer = [(row + sign, behind, self._listeners.passed(self._listeners.moved(number, sign, case, mask)))
                  for sign, behind in self._listeners.ways[number].items()]
        return longer[::-1]


def stands_hold(lot, saying, paper, **notes):
    """Whether the stands show that the saying is true wherever a row and a case fit the notes."""
    told = to_saying(saying)
    listeners = Listeners(lot, notes)
    check_told(lot.play.house, told)
    masks = _masks_of(lot, listeners, paper)
    if masks is None or any([mask & 1 == 0 for mask in masks[0]]):
        return False
    truths = [cases_of(table, told) for table in tables_of(lot)]
    return all([_table_holds(listeners, masks, number, cases) for number, cases in enumerate(truths)])


def check_notes(play, notes):
    """Raises an error for the first keyword that is nobody's, and then for the first wrong entry."""
    check_people(sorted(notes), play.house.people)
    for letter in sorted(notes):
        for index, entry in enumerate(notes[letter]):
            if entry[0] not in (ANY, ANY_ROW) and entry[0] not in play:
                raise BadNotes(letter, index)


def _stride(later):
    """How many tuples there are of the numbers of entries of the later listeners."""
    stride = 1
    for entries in later:
        stride = stride * (len(entries) + 1)
    return stride


def _reached_first(listeners, play):
    """What Find keeps as _found: all that rows lead to, in the order of the rows."""
    start = [listeners.passed(1)] * play.house.size
    seen = [[0] * play.house.size for _ in listeners.ways]
    seen[0] = start
    found = [("", 0, start)]
    at = 0
    while at < len(found):
        row, number, masks = found[at]
        for sign, behind in listeners.ways[number].items():
            moved = [listeners.passed(listeners.moved(number, sign, case, mask)) for case, mask in enumerate(masks)]
            fresh = [mask ^ (mask & known) for mask, known in zip(moved, seen[behind])]
            if any(fresh):
                seen[behind] = [mask | known for mask, known in zip(fresh, seen[behind])]
                found.append((row + sign, behind, fresh))
        at += 1
    return found


def _masks_of(lot, listeners, paper):
    """For each table and each case the mask of the stands of the paper, or None if one of them is no stand."""
    places = {used: place for place, used in enumerate(listeners.used)}
    numbers = {name: number for number, name in enumerate(lot.names())}
    size = lot.play.house.size
    masks = [[0] * size for _ in numbers]
    for used, name, case in paper:
        if used not in places or name not in numbers or case < 0 or case >= size:
            return None
        masks[numbers[name]][case] = masks[numbers[name]][case] | (1 << places[used])
    return masks


def _table_holds(listeners, masks, number, cases):
    """Whether no move leads out of the masks from this table, and only these cases fit in it."""
    last = listeners.all_used()
    for case, mask in enumerate(masks[number]):
        if listeners.passed(mask) != mask or (mask & last != 0 and case not in cases):
            return False
        for sign, behind in listeners.ways[number].items():
            moved = listeners.moved(number, sign, case, mask)
            if moved | masks[behind][case] != masks[behind][case]:
                return False
    return True
