"""Plays: a house, and deeds under signs."""

from thinwall.checks import check_case, check_people, check_row, check_told, is_sign
from thinwall.deedtext import read_deed
from thinwall.errors import BadSign, TooMany, UnknownDeed, UnlikeHouses
from thinwall.leasts import least
from thinwall.tables import Table

MOST_DEEDS = 6


class Play:
    """A house together with deeds, each under a sign."""

    def __init__(self, house, **deeds):
        signs = sorted(deeds)
        _check_signs(signs)
        self.house = house
        self.signs = "".join(signs)
        self._deeds = {sign: _to_deed(deeds[sign]) for sign in signs}
        for deed in self._deeds.values():
            check_told(house, deed)
        self._start = Table(house)

    @property
    def start(self):
        """The table before anything is done."""
        return self._start

    def deed(self, sign):
        """The deed under the sign."""
        if sign not in self._deeds:
            raise UnknownDeed(sign, 0)
        return self._deeds[sign]

    def after(self, row, *, table=None):
        """The table behind the row, from the first table on or from another one."""
        check_row(row, self.signs)
        if table is not None and table.house != self.house:
            raise UnlikeHouses("house")
        reached = self._start if table is None else table
        for sign in row:
            deed = self._deeds[sign]
            reached = deed(reached)
        return reached

    def words(self, row, letter, case):
        """What the person hears of the deeds of the row in the case."""
        check_row(row, self.signs)
        check_people([letter], self.house.people)
        check_case(case, self.house.size)
        found = []
        table = self._start
        for sign in row:
            deed = self._deeds[sign]
            found.append(deed.heard(table, letter)[case])
            table = deed(table)
        return found

    def essential(self, row):
        """The row without the deeds that tell nothing at their place."""
        check_row(row, self.signs)
        kept = ""
        table = self._start
        for sign in row:
            deed = self._deeds[sign]
            behind = deed(table)
            if behind != table:
                kept += sign
            table = behind
        return kept

    def only(self, signs):
        """The play with only those deeds whose signs occur in the string."""
        kept = {sign: deed for sign, deed in self._deeds.items() if sign in signs}
        return Play(self.house, **kept)

    def within(self, house):
        """The play with the same deeds in another house."""
        return Play(house, **self._deeds)

    def least(self):
        """The play with the same deeds in the least form of the house, and the map onto it."""
        house, onto = least(self._start)
        return self.within(house), onto

    def __contains__(self, sign):
        return sign in self._deeds

    def __eq__(self, other):
        return isinstance(other, Play) and self.house == other.house and self._deeds == other._deeds

    def __ne__(self, other):
        return not self == other

    def __len__(self):
        return len(self._deeds)


def _check_signs(signs):
    for sign in signs:
        if not is_sign(sign):
            raise BadSign(sign)
    if len(signs) > MOST_DEEDS:
        raise TooMany(MOST_DEEDS)


def _to_deed(deed):
    """The deed itself, or the one that has the text."""
    if isinstance(deed, str):
        return read_deed(deed)
    return deed
