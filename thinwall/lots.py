"""Lots: the tables behind all rows of a play."""

from thinwall.alike import joint_rounds
from thinwall.checks import check_row
from thinwall.errors import TooMany
from thinwall.machines import least_row, reached

MOST_TABLES = 300


class Lot:
    """The tables that rows of a play lead to, in the order of their names.

    The tables are numbered in this order: _numbers has the number for each key, and
    _steps for each table the numbers of the tables behind it, one for each sign.
    """

    def __init__(self, play, *, most=MOST_TABLES):
        self.play = play
        self._names = []
        self._tables = []
        self._numbers = {}
        self._steps = []
        self._add("", play.start, most)
        # Shorter names come first, and so each table is found by its least row.
        while len(self._steps) < len(self._tables):
            self._steps.append(self._steps_from(len(self._steps), most))

    def names(self):
        """The names of all tables, in order."""
        return list(self._names)

    def walk(self):
        """The pairs of a name and its table, in order."""
        for name, table in zip(self._names, self._tables):
            yield (name, table)

    def after(self, row):
        """The table behind the row."""
        return self._tables[self._number_behind(row)]

    def least(self, row):
        """The least row that leads to the same table."""
        return self._names[self._number_behind(row)]

    def name_of(self, table):
        """The name of the table, or None if no row leads to it."""
        if table not in self:
            return None
        return self._names[self._numbers[table.key]]

    def steps(self):
        """The triples of a name, a sign, and the name of the table behind the deed, in order."""
        return [(name, sign, self._names[behind]) for name, following in zip(self._names, self._steps)
                for sign, behind in zip(self.play.signs, following)]

    def search(self, wish):
        """The name of the first table for which the function returns True, or None."""
        for name, table in zip(self._names, self._tables):
            if wish(table):
                return name
        return None

    def telling(self, row):
        """The signs of the deeds that tell something behind the row."""
        return self._telling_at(self._number_behind(row))

    def last_names(self):
        """The names of the tables in which no deed tells anything, in order."""
        return [name for number, name in enumerate(self._names) if self._telling_at(number) == ""]

    def behind(self, row, other):
        """The least row that leads on to the table behind the other row, or None."""
        first = self._number_behind(row)
        last = self._number_behind(other)
        found, steps = reached(first, lambda number: self._steps[number])
        if last not in found:
            return None
        return least_row(self.play.signs, steps, found.index(last))

    def longest(self):
        """The longest row in which each deed tells something at its place."""
        rows = {}
        # Whatever tells something leads to less room, so the rows behind it are known.
        for _, number in sorted([(table.room, at) for at, table in enumerate(self._tables)]):
            rows[number] = ""
            for sign, behind in zip(self.play.signs, self._steps[number]):
                if behind != number and len(rows[behind]) + 1 > len(rows[number]):
                    rows[number] = sign + rows[behind]
        return rows[0]

    def classes(self):
        """The names of the tables whose cases are alike, each class as a list."""
        size = self.play.house.size
        marks = joint_rounds(self._tables)[-1]
        found = {}
        for number, name in enumerate(self._names):
            form = tuple(marks[number * size:(number + 1) * size])
            found.setdefault(form, []).append(name)
        return list(found.values())

    def __contains__(self, table):
        return table.house == self.play.house and table.key in self._numbers

    def __len__(self):
        return len(self._tables)

    def _add(self, name, table, most):
        """Gives the table the next number."""
        if len(self._tables) >= most:
            raise TooMany(most)
        self._numbers[table.key] = len(self._tables)
        self._names.append(name)
        self._tables.append(table)

    def _steps_from(self, number, most):
        """The numbers of the tables behind the table of this number; a new table gets one."""
        following = []
        for sign in self.play.signs:
            deed = self.play.deed(sign)
            behind = deed(self._tables[number])
            if behind.key not in self._numbers:
                self._add(self._names[number] + sign, behind, most)
            following.append(self._numbers[behind.key])
        return following

    def _number_behind(self, row):
        """The number of the table behind the row."""
        check_row(row, self.play.signs)
        number = 0
        for sign in row:
            number = self._steps[number][self.play.signs.find(sign)]
        return number

    def _telling_at(self, number):
        """The signs of the deeds that tell something in the table of this number."""
        return "".join([sign for sign, behind in zip(self.play.signs, self._steps[number]) if behind != number])


def tables_of(lot):
    """The tables of the lot, in order."""
    return [table for _, table in lot.walk()]


def last_tables(lot):
    """The tables of the lot in which no deed tells anything, in order."""
    return [lot.after(name) for name in lot.last_names()]


def ways_of(lot):
    """For each table of the lot a dict that leads from each sign to the number of the table behind the deed."""
    numbers = {name: number for number, name in enumerate(lot.names())}
    ways = [{} for _ in numbers]
    for name, sign, behind in lot.steps():
        ways[numbers[name]][sign] = numbers[behind]
    return ways


def least_rows(first, following):
    """The pairs of the least row to a state and this state, in the order of the rows.

    These are all states that are reached from the first one. following(state) is a
    dict that leads from signs, in ascending order, to the states behind them.
    """
    pairs = [("", first)]
    known = {first: True}
    at = 0
    while at < len(pairs):
        row, state = pairs[at]
        yield (row, state)
        for sign, behind in following(state).items():
            if behind not in known:
                known[behind] = True
                pairs.append((row + sign, behind))
        at += 1


def rows_over(ways, signs):
    """The least rows of these signs alone, each with the number of the table that it leads to, in order."""
    kept = [{sign: behind for sign, behind in way.items() if sign in signs} for way in ways]
    return list(least_rows(0, lambda at: kept[at]))


def choices_of(signs):
    """All strings of some of the signs, the shorter ones first, and then in alphabetical order."""
    found = [""]
    for sign in signs:
        found = found + [chosen + sign for chosen in found]
    return sorted(found, key=lambda chosen: (len(chosen), chosen))
