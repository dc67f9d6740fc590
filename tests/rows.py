"""Plays for the tests of what all rows of deeds lead to, and their rows one after the other."""

from thinwall.houses import House
from thinwall.lots import Lot
from thinwall.plays import Play
from thinwall.tables import Table
from oracles import true_in
from support import source_of
from telling import made, random_told, rows_up_to

HOUSE = House(["p"], ["0", "1"], a=[0, 1], b=[0, 0], c=[0, 0])
PLAY = Play(HOUSE, x="tell a: p / b: true", y="tell b: p / c: true")
LOT = Lot(PLAY)

# Each of six looks tells one more fact, in any order, so there are 64 tables.
CUBE = Play(House(list("pqrstu"), ["111111"] + ["1" * at + "0" + "1" * (5 - at) for at in range(6)], a=[0] * 7),
            **{sign: f"look a: {name}" for sign, name in zip("fedcba", "pqrstu")})

# Each of three sees the foreheads of the others; that nobody knows the own one tells more from time to time.
MUD = Play(House.matching(["p", "q", "r"], "p | q | r", a=["q", "r"], b=["p", "r"], c=["p", "q"]),
           v="voice: [a?]p | [b?]q | [c?]r / a: true / b: true / c: true", x="voice: [a?]p / b: true / c: true")


# More than 300 tables.
BIG = Play(House(list("pqr"), ["010", "110", "001", "101", "110", "000", "110", "011"], a=[0, 0, 0, 0, 4, 0, 0, 0],
                 b=[0, 0, 2, 2, 0, 2, 2, 2], c=[0, 0, 2, 0, 0, 2, 0, 0]),
           u="call: q / c: q", v="tell c: q / b: true", w="tell b: q / a: true", x="tell c: p / b: true",
           y="voice: [c]p / a: q / c: r", z="voice: [a]q / b: q")

# More than 1000 tables.
HUGE_PLAY = Play(House(list("pqr"), ["011", "010", "010", "101", "011", "101", "111", "110", "010", "000"],
                       a=[0, 0, 0, 0, 0, 5, 0, 5, 0, 5], b=[0, 1, 0, 1, 1, 1, 0, 0, 1, 0], c=[0, 0, 2, 0, 0, 0, 0, 2, 2, 2]),
                 u="call: r / c: q", v="voice: [a]q / c: r", w="call: p / a: true / b: r / c: true",
                 x="call: r / a: q / b: r", y="voice: [c]p / c: r", z="tell a: r / b: q")


def some_lots(seed, many, least_size=1, room=7):
    """Plays by chance with little room, and for each row of them the table that it leads to."""
    source = source_of(seed)
    while many:
        size, facts = source.randint(2, 5), source.choice(["p", "pq", "pqr"])
        rows = ["".join(source.choice("01") for _ in facts) for _ in range(size)]
        house = House(list(facts), rows, **{letter: [source.randrange(top) for _ in rows] for letter, top in zip("abc", (3, 2, 2))})
        kinds = source.choice([("tell", "hint", "call", "letter"), ("voice", "look", "letter", "tell", "turn", "none")])
        signs = "dxz"[:source.choice([0, 2, 3, 3, 3])]
        play = Play(house, **{sign: telling_deed(source, house, facts, kinds) for sign in signs})
        if play.start.room <= room:
            behind = tables_behind(play, play.start.room + 1)
            if len({table.key for table in behind.values()}) >= least_size:
                many -= 1
                yield source, play, behind


def telling_deed(source, house, facts, kinds):
    """A deed by chance that tells something in most houses."""
    for _ in range(6):
        deed = made(random_told(source, facts, "abc", kinds))
        if deed(Table(house)) != Table(house):
            break
    return deed


def tables_behind(play, length, start=None):
    """The table behind each row of at most this length, from the first table of the play or from another one."""
    behind, known = {"": start or play.start}, {}
    for row in rows_up_to(play.signs, length)[1:]:
        table, sign = behind[row[:-1]], row[-1]
        if (table.key, sign) not in known:
            known[table.key, sign] = play.deed(sign)(table)
        behind[row] = known[table.key, sign]
    return behind


def first_names(behind):
    """For each key of a table the first row that leads to it, in the order of these rows."""
    names = {}
    for row, table in behind.items():
        names.setdefault(table.key, row)
    return names


def short_lots(seed, many, least_size=1, room=5):
    """The same as triples of a source, a lot, and the table behind each row, for plays with less room."""
    for source, play, behind in some_lots(seed, many, least_size, room):
        yield source, Lot(play), behind


def ordered_names(behind):
    """The names of all tables, in their order."""
    return list(first_names(behind).values())


class Truths:
    """Whether sayings are true in the cases of tables, word by word, each asked once."""

    def __init__(self):
        self.known = {}

    def __call__(self, table, case, saying):
        # The objects are kept with the answer, so their numbers stay theirs.
        place = (id(table), case, id(saying))
        if place not in self.known:
            self.known[place] = (bool(true_in(table, case, saying)), table, saying)
        return self.known[place][0]
