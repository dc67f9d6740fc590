"""The bench: a row of a play that is led deed by deed and never spills what must stay secret."""

from thinwall.checks import check_told, chosen_cases
from thinwall.errors import (BadCount, NothingToRedo, NothingToUndo, Refused, Spilled, ThinwallError, TooLong,
                             UnknownDeed)
from thinwall.lots import least_rows
from thinwall.reading import to_saying
from thinwall.tables import Table
from thinwall.truths import true_among

BENCH_LIMIT = 40
GREATEST_LIMIT = 60


class Bench:
    """A row of deeds with its history.

    All that a refused attempt brings back is one tuple _state, which is never changed:
    the row with its table, the pairs of this kind that changes led away from, those
    that were taken back, and the limit. The latest pair of each kind is the last one.
    """

    def __init__(self, play, *, never="false", cases=None, limit=BENCH_LIMIT):
        self.play = play
        self._never = to_saying(never)
        self._cases = chosen_cases(cases, play.house.size)
        check_told(play.house, self._never)
        _check_limit(limit)
        self._check_spilled(play.start)
        self._state = (("", play.start), (), (), limit)

    @property
    def row(self):
        """The deeds that are done."""
        return self._state[0][0]

    @property
    def table(self):
        """The table behind the row."""
        return self._state[0][1]

    @property
    def past(self):
        """How many changes can be taken back."""
        return len(self._state[1])

    @property
    def future(self):
        """How many changes can be made again."""
        return len(self._state[2])

    @property
    def limit(self):
        """How many deeds the row may have."""
        return self._state[3]

    @limit.setter
    def limit(self, limit):
        self.change_limit(limit)

    def do(self, sign):
        """Adds a deed."""
        self._change(self._longer([sign]))

    def do_all(self, row):
        """Adds the deeds of the row as one change, or none of them."""
        if row != "":
            self._change(self._longer(row))

    def cut(self, count):
        """Keeps only the first deeds of the row."""
        if count < 0 or count > len(self.row):
            raise BadCount(count)
        kept = self.row[:count]
        self._change((kept, self.play.after(kept)))

    def undo(self):
        """Takes the latest change back."""
        now, past, future, limit = self._state
        if len(past) == 0:
            raise NothingToUndo()
        self._state = (past[-1], past[:-1], (*future, now), limit)

    def redo(self):
        """Makes the change again that was taken back last."""
        now, past, future, limit = self._state
        if len(future) == 0:
            raise NothingToRedo()
        self._state = (future[-1], (*past, now), future[:-1], limit)

    def change_limit(self, limit):
        """Changes how many deeds the row may have."""
        _check_limit(limit)
        if len(self.row) > limit:
            raise TooLong(limit)
        now, past, future, _ = self._state
        self._state = (now, past, future, limit)

    def fork(self):
        """An independent bench that goes on from here."""
        other = Bench(self.play, never=self._never, cases=self._cases)
        other._state = self._state
        return other

    def advice(self, wish):
        """The least row from here on that spills nothing and makes the wish true, or None."""
        wanted = to_saying(wish)
        house = self.play.house
        check_told(house, wanted)
        for row, key in least_rows(self.table.key, lambda at: self._unspilled_from(at)):
            if true_among(Table.keyed(house, key), wanted, self._cases) == self._cases:
                return row
        return None

    def __len__(self):
        return len(self.row)

    def _change(self, behind):
        """Makes a change that leads to this pair of a row and its table."""
        now, past, _, limit = self._state
        self._state = (behind, (*past, now), (), limit)

    def _longer(self, signs):
        """The pair of the row with these deeds behind it and its table."""
        row, table = self._state[0]
        for place, sign in enumerate(signs):
            if sign not in self.play:
                raise UnknownDeed(sign, place)
            if len(row) >= self.limit:
                raise TooLong(self.limit)
            deed = self.play.deed(sign)
            table = deed(table)
            self._check_spilled(table)
            row += sign
        return (row, table)

    def _check_spilled(self, table):
        spilled = true_among(table, self._never, self._cases)
        if spilled:
            raise Spilled(spilled[0])

    def _unspilled_from(self, key):
        """For each sign the key of the table behind the deed, without those where something is spilled."""
        table = Table.keyed(self.play.house, key)
        behind = {sign: self.play.after(sign, table=table) for sign in self.play.signs}
        return {sign: after.key for sign, after in behind.items()
                if true_among(after, self._never, self._cases) == []}


def attempt(bench, errands):
    """Carries out all errands or none; returns how many there are."""
    state = bench._state
    for index, errand in enumerate(errands):
        try:
            _carry_out(bench, errand)
        except ThinwallError as error:
            bench._state = state
            raise Refused(index) from error
    return len(errands)


def trial(bench, action):
    """What the action returns, with the bench behind it as it was before."""
    state = bench._state
    try:
        return action(bench)
    finally:
        bench._state = state


def _carry_out(bench, errand):
    kind = errand[0]
    if kind == "do":
        bench.do(errand[1])
    elif kind == "all":
        bench.do_all(errand[1])
    elif kind == "cut":
        bench.cut(errand[1])
    elif kind == "undo":
        bench.undo()
    elif kind == "redo":
        bench.redo()
    else:
        bench.change_limit(errand[1])


def _check_limit(limit):
    if limit < 0 or limit > GREATEST_LIMIT:
        raise BadCount(limit)
