"""Wishes: what rows of deeds can reach, and what is true however they go on."""

from thinwall.checks import check_row, check_told, chosen_cases
from thinwall.errors import BadKey
from thinwall.lots import choices_of, last_tables, rows_over, tables_of, ways_of
from thinwall.reading import to_saying
from thinwall.tables import Table
from thinwall.truths import cases_of, true_among


class Aim:
    """What is wished in some cases, and what must never be true in them."""

    def __init__(self, wish, never):
        # Texts are read here, before anything else is checked.
        self._wish = to_saying(wish)
        self._never = to_saying(never)
        self._cases = []

    def take(self, house, cases):
        """Checks the sayings in the house, and keeps the cases."""
        chosen = chosen_cases(cases, house.size)
        check_told(house, self._wish)
        check_told(house, self._never)
        self._cases = chosen

    def good(self, table):
        """Whether what must never be true is true in none of the cases."""
        return true_among(table, self._never, self._cases) == []

    def met(self, table):
        """Whether the wish is true in all the cases."""
        return true_among(table, self._wish, self._cases) == self._cases


def shortest(lot, wish, *, never="false", cases=None):
    """The least good row that leads to a table that meets the wish, or None."""
    good, met = _judged(lot, wish, never, cases)
    return _first_row(_good_rows(ways_of(lot), good, lot.play.signs), met)


def row_holds(play, row, wish, *, never="false", cases=None):
    """Whether the row is good and leads to a table that meets the wish."""
    aim = Aim(wish, never)
    check_row(row, play.signs)
    aim.take(play.house, cases)
    table = play.start
    for sign in row:
        if not aim.good(table):
            return False
        deed = play.deed(sign)
        table = deed(table)
    return aim.good(table) and aim.met(table)


def closed_tables(lot, wish, *, never="false", cases=None):
    """The names of the tables that good rows lead to if none of them meets the wish, or None."""
    good, met = _judged(lot, wish, never, cases)
    rows = _good_rows(ways_of(lot), good, lot.play.signs)
    if _first_row(rows, met) is not None:
        return None
    names = lot.names()
    numbers = sorted([number for _, number in rows])
    return [names[number] for number in numbers]


def closed_holds(play, keys, wish, *, never="false", cases=None):
    """Whether the keys of tables show that no good row leads to a table that meets the wish."""
    aim = Aim(wish, never)
    aim.take(play.house, cases)
    listed = {key: True for key in keys}
    if aim.good(play.start) and play.start.key not in listed:
        return False
    return all([_closed_at(play, key, listed, aim) for key in listed])


def fewest_deeds(lot, wish, *, never="false", cases=None):
    """The fewest signs whose deeds are enough for a good row to the wish, or None."""
    good, met = _judged(lot, wish, never, cases)
    ways = ways_of(lot)
    for signs in choices_of(lot.play.signs):
        if _first_row(_good_rows(ways, good, signs), met) is not None:
            return signs
    return None


def once(lot, saying):
    """The cases in which the saying is true in at least one table."""
    truths = _true_cases(tables_of(lot), saying)
    return [case for case in range(lot.play.house.size) if any([case in cases for cases in truths])]


def always(lot, saying):
    """The cases in which the saying is true in all tables."""
    truths = _true_cases(tables_of(lot), saying)
    return [case for case in range(lot.play.house.size) if all([case in cases for cases in truths])]


def at_last(lot, saying):
    """The cases in which the saying is true in all last tables."""
    truths = _true_cases(last_tables(lot), saying)
    return [case for case in range(lot.play.house.size) if all([case in cases for cases in truths])]


def firm_break(lot, saying):
    """Where a deed first makes the saying false in a case in which it was true, or None."""
    truths = _true_cases(tables_of(lot), saying)
    for name, way, cases in zip(lot.names(), ways_of(lot), truths):
        for sign, behind in way.items():
            broken = [case for case in cases if case not in truths[behind]]
            if broken:
                return (name, sign, broken[0])
    return None


def _judged(lot, wish, never, cases):
    """For each table whether it is good, and whether it meets the wish."""
    aim = Aim(wish, never)
    aim.take(lot.play.house, cases)
    tables = tables_of(lot)
    return [aim.good(table) for table in tables], [aim.met(table) for table in tables]


def _good_rows(ways, good, signs):
    """The least good rows of these signs alone, each with the number of the table that it leads to, in order."""
    if not good[0]:
        return []
    return rows_over([{sign: behind for sign, behind in way.items() if good[behind]} for way in ways], signs)


def _first_row(rows, met):
    """The first of the rows that leads to a table that meets the wish, or None."""
    for row, number in rows:
        if met[number]:
            return row
    return None


def _closed_at(play, key, listed, aim):
    """Whether the table of the key is no goal, and no good deed leads from it out of the list."""
    try:
        table = Table.keyed(play.house, key)
    except BadKey:
        return False
    if aim.met(table) or not aim.good(table):
        return False
    behind = [play.after(sign, table=table) for sign in play.signs]
    return all([after.key in listed or not aim.good(after) for after in behind])


def _true_cases(tables, saying):
    """For each of the tables the cases in which the saying is true; raises the errors of the saying."""
    told = to_saying(saying)
    return [cases_of(table, told) for table in tables]
