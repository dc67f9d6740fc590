"""Written forms of plays, tables, and lots."""

from thinwall.checks import check_told, is_letter, is_sign
from thinwall.deedtext import read_deed
from thinwall.errors import BadHouse, BadLine, BadText, ThinwallError
from thinwall.houses import MOST_PEOPLE, House, check_names, is_row
from thinwall.lots import tables_of
from thinwall.plays import MOST_DEEDS, Play
from thinwall.splits import Split

EMPTY = "-"


class LineReader:
    """Reads the lines of the written form of a play, in their order."""

    def __init__(self):
        self._facts = []
        self._rows = []
        self._eyes = {}
        self._deeds = {}

    def takes(self, place, line):
        """Whether the line can stand at this place; if so, it is kept."""
        if place == 0:
            return self._takes_facts(line)
        if place == 1:
            return self._takes_cases(line)
        if line[1:3] == ": ":
            return self._takes_person(line[0], line[3:])
        if line[1:4] == " = ":
            return self._takes_deed(line[0], line[4:])
        return False

    def complete(self):
        """Whether the text may end here."""
        return len(self._eyes) > 0

    def result(self):
        """The play that the lines describe."""
        house = self._house()
        return Play(house, **self._deeds)

    def _takes_facts(self, line):
        title, *names = line.split(" ")
        try:
            check_names(names)
        except BadHouse:
            return False
        self._facts = names
        return title == "facts"

    def _takes_cases(self, line):
        title, *words = line.split(" ")
        if self._facts:
            self._rows = words
        else:
            self._rows = ["" for word in words if word == EMPTY]
        if title != "cases" or len(words) < 1 or len(words) > Split.MOST or len(self._rows) < len(words):
            return False
        return all([is_row(row, self._facts) for row in self._rows])

    def _takes_person(self, letter, text):
        if self._deeds or len(self._eyes) == MOST_PEOPLE or not is_letter(letter) or not _is_behind(letter, self._eyes):
            return False
        try:
            split = Split.read(text)
        except BadText:
            return False
        self._eyes[letter] = split.marks()
        return split.size == len(self._rows)

    def _takes_deed(self, sign, text):
        if not self._eyes or len(self._deeds) == MOST_DEEDS or not is_sign(sign) or not _is_behind(sign, self._deeds):
            return False
        try:
            deed = read_deed(text)
            check_told(self._house(), deed)
        except ThinwallError:
            return False
        self._deeds[sign] = deed
        return True

    def _house(self):
        return House(self._facts, self._rows, **self._eyes)


def format_play(play):
    """The written form of the play."""
    house = play.house
    lines = [" ".join(["facts"] + house.facts()), " ".join(["cases"] + _shown_rows(house))]
    lines.extend([f"{letter}: {house.eyes(letter)}" for letter in house.people])
    lines.extend([f"{sign} = {play.deed(sign)}" for sign in play.signs])
    return "\n".join(lines)


def parse_play(text):
    """The play that has exactly this written form."""
    reader = LineReader()
    lines = text.split("\n")
    for place, line in enumerate(lines):
        if not reader.takes(place, line):
            raise BadLine(place + 1)
    if not reader.complete():
        raise BadLine(len(lines) + 1)
    return reader.result()


def table_lines(table):
    """A line for each case: the case, its row of facts, and the cells in which it lies."""
    rows = _shown_rows(table.house)
    cells = [_cell_places(table.view(letter)) for letter in table.house.people]
    return [f"{case:>2} {row:<6}" + "".join([f" {places[case]:>2}" for places in cells])
            for case, row in enumerate(rows)]


def lot_lines(lot):
    """A line for each table: its index, its name, and its room."""
    shown = [name or EMPTY for name in lot.names()]
    return [f"{number:>4} {name:<8} {table.room:>3}" for number, (name, table) in enumerate(zip(shown, tables_of(lot)))]


def _is_behind(key, keys):
    """Whether the character is greater than all of these."""
    return all([key > other for other in keys])


def _shown_rows(house):
    return [row or EMPTY for row in house.rows()]


def _cell_places(view):
    """For each case the index of its cell."""
    return [view.cells().index(view.cell(case)) for case in range(view.size)]
