"""Orders: how one deed changes what another one tells."""

from thinwall.checks import check_row
from thinwall.errors import TooMany
from thinwall.lots import ways_of

MOST_ARRANGED = 8


def order_clash(lot, first, second):
    """Where the order of the two deeds matters first, and to whom, or None."""
    _check_signs(lot, [first, second])
    return _clash(lot, ways_of(lot), first, second)


def free_pairs(lot):
    """The pairs of signs whose order never matters."""
    ways = ways_of(lot)
    return [(first, second) for first in lot.play.signs for second in lot.play.signs
            if first < second and _clash(lot, ways, first, second) is None]


def echoes(lot, sign):
    """How often in succession the deed tells something at most, and the first name from which it does."""
    _check_signs(lot, [sign])
    ways = ways_of(lot)
    counts = [_echoes_from(ways, number, sign) for number in range(len(ways))]
    most = max(counts)
    return (most, lot.names()[counts.index(most)])


def covers(lot, first, second):
    """The first name from which the second deed tells something behind the first one, or None."""
    _check_signs(lot, [first, second])
    ways = ways_of(lot)
    for name, way in zip(lot.names(), ways):
        behind = way[first]
        if ways[behind][second] != behind:
            return name
    return None


def idle(lot):
    """The signs of the deeds that never tell anything."""
    ways = ways_of(lot)
    return "".join([sign for sign in lot.play.signs
                    if all([way[sign] == number for number, way in enumerate(ways)])])


def endings(lot, row):
    """The tables that arrangements of the row lead to: the first arrangement and the name of each."""
    check_row(row, lot.play.signs)
    if len(row) > MOST_ARRANGED:
        raise TooMany(MOST_ARRANGED)
    names = lot.names()
    return [(order, names[number]) for order, number in _arranged(ways_of(lot), row)]


def _check_signs(lot, signs):
    """Raises an error for the first string that is not a sign of the play."""
    for sign in signs:
        # The play knows the error; the deed itself is not needed.
        lot.play.deed(sign)


def _clash(lot, ways, first, second):
    for name, way in zip(lot.names(), ways):
        one = ways[way[first]][second]
        other = ways[way[second]][first]
        if one != other:
            letter, low, high = _difference(lot.after(name + first + second), lot.after(name + second + first))
            return (name, letter, low, high)
    return None


def _difference(one, other):
    """The first person whose views differ, and the first two cases that are together in just one of them."""
    size = one.house.size
    found = [(letter, low, high) for letter in one.house.people for low in range(size) for high in range(low + 1, size)
             if one.view(letter).together(low, high) != other.view(letter).together(low, high)]
    return found[0]


def _echoes_from(ways, number, sign):
    """How often in succession the deed tells something from the table of this number on."""
    count = 0
    at = number
    while ways[at][sign] != at:
        at = ways[at][sign]
        count += 1
    return count


def _arranged(ways, row):
    """The pairs of a first arrangement of the row and the number of the table that it leads to, in order."""
    # What can follow depends only on the table and on the signs that are left, so
    # of all beginnings with the same two only the first one is kept.
    found = {(0, "".join(sorted(row))): ""}
    for _ in row:
        longer = {}
        for (number, left), order in found.items():
            for sign in sorted(set(left)):
                place = (ways[number][sign], left.replace(sign, "", 1))
                if place not in longer:
                    longer[place] = order + sign
        found = longer
    return [(order, number) for (number, _), order in found.items()]
