import itertools
import unittest

from thinwall.alike import alike_pairs
from thinwall.ears import ear_machine, ears_alike, find_apart, finest, first_word, never_apart
from thinwall.errors import BadGroup, UnknownCase, UnknownPerson, UnlikeMachines
from thinwall.houses import House
from thinwall.lots import Lot
from thinwall.machines import Machine
from thinwall.plays import Play
from thinwall.splits import Split, pooled
from thinwall.tables import Table
from rows import CUBE, HOUSE, LOT, MUD, PLAY, first_names, ordered_names, short_lots, tables_behind, telling_deed
from support import HUGE, Checks, random_group, source_of
from telling import rows_up_to

GROUPS = ["".join(letters) for many in (1, 2, 3) for letters in itertools.combinations("abc", many)]

# The same people and signs, but other facts and three cases; c hears nothing before b has told something.
OTHER = Lot(Play(House(["q", "r"], ["11", "10", "00"], a=[0, 0, 1], b=[0, 0, 0], c=[0, 0, 0], d=[0, 1, 2]),
                 x="tell a: r / b: true", y="tell b: r / c: true"))


class Heard:
    """What a group hears of rows, read off point 55."""

    def __init__(self, play, behind):
        self.play, self.behind = play, behind
        self.known = {}

    def at(self, row, sign, group):
        """For each case the words that the people of the group hear of this deed behind the row."""
        table = self.behind[row]
        place = (id(table), sign, group)
        if place not in self.known:
            heard = [self.play.deed(sign).heard(table, letter) for letter in group]
            self.known[place] = [tuple(words) for words in zip(*heard)]
        return self.known[place]

    def words(self, row, group, case):
        return [self.at(row[:at], sign, group)[case] for at, sign in enumerate(row)]


def rows_apart(one, a, other, b, group, rows):
    """The rows for which the group hears different words in the two cases."""
    return [row for row in rows if row and one.words(row, group, a) != other.words(row, group, b)]


class OneLot(Checks):
    def test_against_all_rows(self):
        words = []
        for source, lot, behind in short_lots(130, 40, 3, 5):
            play, names, order = lot.play, first_names(behind), ordered_names(behind)
            heard, size = Heard(play, behind), play.house.size
            for group in source.sample(GROUPS, 3):
                machine = ear_machine(lot, group, 0)
                self.assertEqual((machine.signs, len(machine), machine.first), (play.signs, len(order), 0))
                self.assertEqual(machine.steps(), [[order.index(names[play.deed(sign)(behind[name]).key])
                                                    for sign in play.signs] for name in order])
                for case in range(size):
                    machine = ear_machine(lot, group, case)
                    self.assertEqual(machine.words(), [["+".join(heard.at(name, sign, group)[case]) for sign in play.signs]
                                                       for name in order])
                    for row in source.sample(list(behind), min(6, len(behind))):
                        self.assertEqual(machine(row), ["+".join(told) for told in heard.words(row, group, case)])
                    speaking = [row for row in behind if row and
                                any(word != "-" for word in heard.at(row[:-1], row[-1], group)[case])]
                    self.assertEqual(first_word(lot, group, case), speaking[0] if speaking else None)
                    words.append(first_word(lot, group, case))
                found = never_apart(lot, group)
                for a, b in itertools.combinations(range(size), 2):
                    self.assertIs(found.together(a, b), rows_apart(heard, a, heard, b, group, behind) == [])
                    self.assertIs(find_apart(lot, a, lot, b, group) is None, found.together(a, b))
        self.assertLessEqual({None, 1}, {row and len(row) for row in words})

    def test_finest(self):
        finer = 0
        for _, lot, behind in short_lots(131, 50, 3, 6):
            house = lot.play.house
            found = finest(lot)
            self.assertEqual(found.house, house)
            for letter in house.people:
                views = [table.view(letter) for table in behind.values()]
                self.assertEqual(found.view(letter), pooled(*views, size=house.size))
                self.assertEqual(found.view(letter), house.eyes(letter) & never_apart(lot, letter))
            finer += found not in [table for table in behind.values()]
        self.assertGreater(finer, 0)
        self.assertEqual(finest(LOT), PLAY.after("xy"))
        self.assertEqual(finest(Lot(Play(HOUSE))), Table(HOUSE))

    def test_by_hand(self):
        self.assertEqual(ear_machine(LOT, "bc", 1), Machine("xy", [[1, 0], [1, 2], [2, 2]], [
            ["yes+-", "unsure+unsure"], ["yes+-", "yes+yes"], ["yes+-", "yes+yes"]]))
        self.assertEqual(ear_machine(LOT, "c", 0).words(), [["-", "unsure"], ["-", "no"], ["-", "no"]])
        self.assertEqual([never_apart(LOT, letter) for letter in "abc"], [Split.apart(2)] * 3)
        self.assertEqual(never_apart(Lot(PLAY.only("y")), "abc"), Split.whole(2))
        self.assertEqual(first_word(LOT, "c", 0), "y")
        self.assertEqual(first_word(LOT, "ac", 0), "x")
        self.assertIsNone(first_word(Lot(PLAY.only("x")), "c", 0))
        self.assertIsNone(first_word(Lot(Play(HOUSE)), "abc", 1))
        hint = Lot(Play(HOUSE, x="tell a: p / b: true", y="hint b: p / c: true", z="none / c: true"))
        self.assertEqual([first_word(hint, "c", case) for case in (0, 1)], [None, "xy"])
        self.assertEqual(first_word(Lot(CUBE), "a", 2), "a")
        self.assertEqual(ear_machine(Lot(MUD), "ac", 3).words()[0], ["yes+yes", "-+yes"])


class TwoLots(Checks):
    def test_against_all_rows(self):
        apart = []
        for source, lot, other, behind, other_behind in pairs_of_lots(132, 30):
            rows = rows_up_to(lot.play.signs, 5)
            one, another = Heard(lot.play, behind), Heard(other.play, other_behind)
            group = random_group(source, "abc")
            wanted = []
            for a, b in itertools.product(range(lot.play.house.size), range(other.play.house.size)):
                found = find_apart(lot, a, other, b, group)
                self.assertEqual(found, first_apart(one, a, another, b, group, rows))
                wanted += [(a, b)] if found is None else []
                apart.append(found)
            self.assertEqual(ears_alike(lot, other, group), wanted)
        self.assertLessEqual({None, 1}, {row and len(row) for row in apart})
        self.assertGreater(max(len(row) for row in apart if row), 2)

    def test_by_hand(self):
        self.assertEqual(find_apart(LOT, 1, OTHER, 0, "b"), "x")
        self.assertEqual(find_apart(LOT, 0, OTHER, 2, "abc"), None)
        self.assertEqual(find_apart(LOT, 1, OTHER, 2, "c"), "xy")
        self.assertEqual(find_apart(LOT, 1, OTHER, 2, "bc"), "x")
        self.assertEqual(ears_alike(LOT, OTHER, "abc"), [(0, 2)])
        self.assertEqual(ears_alike(OTHER, LOT, "b"), [(2, 0)])
        self.assertEqual(ears_alike(OTHER, OTHER, "c"), [(0, 0), (0, 1), (1, 0), (1, 1), (2, 2)])
        self.assertEqual(find_apart(OTHER, 0, OTHER, 1, "abcd"), None)
        none = Lot(Play(HOUSE))
        self.assertEqual(ears_alike(none, none, "abc"), [(0, 0), (0, 1), (1, 0), (1, 1)])

    def test_alike_cases_are_never_told_apart(self):
        source, pairs = source_of(133), 0
        for _, lot, _ in short_lots(134, 30, 3, 6):
            house = lot.play.house
            cases = [source.randrange(house.size) for _ in range(house.size + 1)] + list(range(house.size))
            # A house in which each case may stand several times, as one case of every cell.
            again = House(house.facts(), [house.rows()[case] for case in cases], **{
                letter: [house.eyes(letter).marks()[case] for case in cases] for letter in house.people})
            other = Lot(lot.play.within(again))
            for a, b in alike_pairs(lot.play.start, other.play.start):
                self.assertIsNone(find_apart(lot, a, other, b, "abc"))
                pairs += 1
        self.assertGreater(pairs, 100)


def pairs_of_lots(seed, many):
    """Two lots with the same signs, sometimes with equal deeds or the same house, and all tables behind short rows."""
    source = source_of(seed)
    for _, lot, _ in short_lots(seed, many, 3, 5):
        signs = lot.play.signs
        if source.random() < 0.3:
            other = lot
        else:
            size = source.randint(1, 4)
            house = House(lot.play.house.facts() + ["s"], ["".join(source.choice("01") for _ in range(len(lot.play.house.facts()) + 1))
                          for _ in range(size)], **{letter: [source.randrange(2) for _ in range(size)] for letter in "abcf"})
            facts = "".join(lot.play.house.facts())
            other = Lot(Play(house, **{sign: lot.play.deed(sign) if source.random() < 0.8 else telling_deed(
                source, house, facts, ("tell", "voice", "call")) for sign in signs}))
        yield source, lot, other, tables_behind(lot.play, 5), tables_behind(other.play, 5)


def first_apart(one, a, other, b, group, rows):
    """The first of the rows for which the group hears different words."""
    for row in rows:
        if row and one.at(row[:-1], row[-1], group)[a] != other.at(row[:-1], row[-1], group)[b]:
            return row
    return None


class Errors(Checks):
    def test_one_lot(self):
        good = {"lot": LOT, "group": "ac", "case": 0}
        for group, error in (("", BadGroup("")), ("ca", BadGroup("ca")), ("aa", BadGroup("aa")), ("ai", BadGroup("ai")),
                             ("adh", UnknownPerson("d")), ("h", UnknownPerson("h"))):
            for call in (ear_machine, first_word):
                for case in (-1, 2, HUGE):
                    self.assert_errors_in_order(call, good, ({"group": group}, error), ({"case": case}, UnknownCase(case)))
            self.assert_error(error, never_apart, LOT, group)

    def test_two_lots(self):
        few = Lot(PLAY.only("x"))
        good = {"first_lot": LOT, "a": 0, "second_lot": OTHER, "b": 0, "group": "ac"}
        apart = ({"first_lot": few}, UnlikeMachines())
        for group in ("", "ba", "i"):
            self.assert_errors_in_order(find_apart, good, apart, ({"group": group}, BadGroup(group)),
                                        ({"a": 2}, UnknownCase(2)), ({"b": 3}, UnknownCase(3)))
            self.assert_errors_in_order(ears_alike, {"first_lot": LOT, "second_lot": OTHER, "group": "ac"}, apart,
                                        ({"group": group}, BadGroup(group)))
        # Only the second house has d, so the letter is refused before a.
        self.assert_errors_in_order(find_apart, good, apart, ({"group": "bd"}, UnknownPerson("d")),
                                    ({"a": -1}, UnknownCase(-1)), ({"b": -1}, UnknownCase(-1)))
        # Only the first house has d, so a is refused before the letter.
        turned = {"first_lot": OTHER, "a": 0, "second_lot": LOT, "b": 0, "group": "ac"}
        self.assert_errors_in_order(find_apart, turned, ({"second_lot": few}, UnlikeMachines()), ({"a": 3}, UnknownCase(3)),
                                    ({"group": "d"}, UnknownPerson("d")), ({"b": 2}, UnknownCase(2)))
        self.assert_error(UnknownPerson("h"), find_apart, **{**turned, "group": "dh", "a": 9})
        # Each house lacks another person, and the first one decides, also where nothing is ever heard.
        for deeds in ({}, {"x": "none"}):
            one = Lot(Play(HOUSE, **deeds))
            other = Lot(Play(House(["p"], ["0"], a=[0], b=[0], d=[0]), **deeds))
            for first, second, letter in ((one, other, "d"), (other, one, "c")):
                self.assert_error(UnknownPerson(letter), ears_alike, first, second, "cd")
                self.assert_error(UnknownPerson(letter), find_apart, first, 0, second, 0, "cd")
                self.assert_error(UnknownPerson(letter), ears_alike, first, second, letter)
                self.assert_error(UnknownPerson(letter), ears_alike, second, first, letter)
        for lots in ((LOT, OTHER), (OTHER, LOT)):
            self.assert_error(UnknownPerson("d"), ears_alike, *lots, "cd")
            self.assert_error(UnknownPerson("e"), ears_alike, *lots, "e")

    def test_nothing_is_changed(self):
        self.assert_fresh_list(ears_alike, LOT, OTHER, "b")
        self.assertEqual(ear_machine(LOT, "b", 0), ear_machine(LOT, "b", 0))


if __name__ == "__main__":
    unittest.main()
