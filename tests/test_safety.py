import itertools
import unittest

from thinwall.errors import BadGroup, BadSaying, UnknownCase, UnknownFact, UnknownPerson
from thinwall.houses import House
from thinwall.lots import Lot
from thinwall.plays import Play
from thinwall.safety import (best_level, fewest_struck, leak, safe_cases, safe_holds, safe_paper, secrets, twins)
from thinwall.sayings import Fact, Truth
from thinwall.splits import Split
from thinwall.tables import Table
from oracles import PAIR, ROAD
from rows import CUBE, HOUSE, LOT, MUD, PLAY, Truths, first_names, ordered_names, short_lots
from support import HUGE, Checks, random_group, random_saying
from test_wishes import is_key

# Whether p becomes known in the two last cases only; b never learns it, and c only in the last one.
QUIET = Play(House(["p", "q"], ["00", "10", "01", "11"], a=[0, 1, 2, 3], b=[0, 0, 1, 1], c=[0, 0, 0, 0]),
             x="tell a: p / c: q & p", y="look c: q")
QUIET_LOT = Lot(QUIET)


def knows_whether(table, name, letter, case):
    return len({table.house.fact_holds(other, name) for other in table.view(letter).cell(case)}) == 1


def first_twin(table, name, letter, case):
    return [other for other in table.view(letter).cell(case)
            if table.house.fact_holds(other, name) != table.house.fact_holds(case, name)][0]


def is_safe_paper(play, name, letter, case, paper):
    """Whether the pairs are a paper, read off point 52."""
    keys = [key for key, _ in paper]
    if play.start.key not in keys:
        return False
    for key, twin in paper:
        if not is_key(key, play.house) or twin not in range(play.house.size):
            return False
        table = Table(play.house, **{one: Split(list(marks)) for one, marks in zip(play.house.people, key)})
        if not table.view(letter).together(case, twin):
            return False
        if play.house.fact_holds(case, name) == play.house.fact_holds(twin, name):
            return False
        if any(play.deed(sign)(table).key not in keys for sign in play.signs):
            return False
    return True


def changed_papers(source, play, paper):
    """Papers that differ a little from this one."""
    size = play.house.size
    yield paper[::-1] + paper[:2]
    for at, (key, twin) in enumerate(paper):
        yield paper[:at] + paper[at + 1:]
        yield paper[:at] + [(key, (twin + 1) % size)] + paper[at + 1:]
        yield paper + [(key, source.randrange(size))]
    at = source.randrange(len(paper))
    key, twin = paper[at]
    for other in (-1, -size, twin - size, size, HUGE, -HUGE):
        yield paper[:at] + [(key, other)] + paper[at + 1:]
        yield paper + [(key, other)]
    other_key = tuple(tuple(Split([source.randrange(2) for _ in range(size)]).marks()) for _ in play.house.people)
    for other in (key[1:], key + key[:1], (), key[::-1], (key[0][1:],) + key[1:], other_key,
                  (tuple(mark + 1 for mark in key[0]),) + key[1:], ((-1,) + key[0][1:],) + key[1:]):
        yield paper[:at] + [(other, twin)] + paper[at + 1:]
        yield paper + [(other, twin)]


def greatest_level(truths, tables, case, group, saying):
    """The greatest level in these tables, and the number of the first one that has it; None is the greatest."""
    found = []
    for at, table in enumerate(tables):
        true_cases, count = [other for other in range(table.house.size) if truths(table, other, saying)], 0
        while count <= 60 and case in true_cases:
            true_cases = [other for other in true_cases
                          if all(set(table.view(letter).cell(other)) <= set(true_cases) for letter in group)]
            count += 1
        found.append((count, -at))
    count, at = max(found)
    return (None if count > 60 else count), -at


class Safe(Checks):
    def test_against_all_rows(self):
        seen, papers = [], 0
        for source, lot, behind in short_lots(115, 50, 3, 7):
            play, order = lot.play, ordered_names(behind)
            tables = [behind[name] for name in order]
            last = [name for name in order if all(play.deed(sign)(behind[name]) == behind[name] for sign in play.signs)]
            all_safe = []
            for name, letter in itertools.product(play.house.facts(), play.house.people):
                safe = [case for case in range(play.house.size)
                        if not any(knows_whether(table, name, letter, case) for table in tables)]
                self.assertEqual(safe_cases(lot, name, letter), safe)
                leaks = [(row, case) for row in order for case in range(play.house.size)
                         if knows_whether(behind[row], name, letter, case)]
                self.assertEqual(leak(lot, name, letter), leaks[0] if leaks else None)
                all_safe += [(name, letter)] if len(safe) == play.house.size else []
                seen.append((len(safe) > 0) + (len(safe) == play.house.size))
                for case in range(play.house.size):
                    self.assertEqual(twins(lot, name, letter, case), [
                        (row, first_twin(behind[row], name, letter, case)) for row in last] if case in safe else None)
                    paper = safe_paper(lot, name, letter, case)
                    self.assertEqual(paper, [(table.key, first_twin(table, name, letter, case)) for table in tables]
                                     if case in safe else None)
                    if paper is not None:
                        self.assertIs(safe_holds(play, name, letter, case, paper), True)
                    else:
                        self.assertIs(safe_holds(play, name, letter, case, [
                            (table.key, source.randrange(play.house.size)) for table in tables]), False)
                    if paper is not None and source.random() < 0.15:
                        papers += 1
                        for changed in changed_papers(source, play, paper):
                            self.assertIs(safe_holds(play, name, letter, case, changed),
                                          is_safe_paper(play, name, letter, case, changed), changed)
            self.assertEqual(secrets(lot), all_safe)
        self.assertGreater(min(seen.count(kind) for kind in (0, 1, 2)), 2)
        self.assertGreater(papers, 15)

    def test_by_hand(self):
        self.assertEqual(QUIET_LOT.names(), ["", "x", "y", "xy"])
        self.assertEqual(safe_cases(QUIET_LOT, "p", "b"), [0, 1, 2, 3])
        self.assertEqual(safe_cases(QUIET_LOT, "p", "c"), [0, 1])
        self.assertEqual(safe_cases(QUIET_LOT, "p", "a"), [])
        self.assertEqual(secrets(QUIET_LOT), [("p", "b")])
        self.assertEqual(leak(QUIET_LOT, "p", "c"), ("x", 3))
        self.assertEqual(leak(QUIET_LOT, "q", "b"), ("", 0))
        self.assertEqual(leak(QUIET_LOT, "q", "c"), ("x", 3))
        self.assertIsNone(leak(QUIET_LOT, "p", "b"))
        self.assertEqual(twins(QUIET_LOT, "p", "c", 0), [("xy", 1)])
        self.assertEqual(twins(QUIET_LOT, "p", "b", 3), [("xy", 2)])
        self.assertIsNone(twins(QUIET_LOT, "p", "c", 2))
        self.assertEqual(safe_paper(QUIET_LOT, "p", "c", 1),
                         [(QUIET_LOT.after(row).key, twin) for row, twin in (("", 0), ("x", 0), ("y", 0), ("xy", 0))])
        self.assertEqual(safe_cases(LOT, "p", "c"), [])
        self.assertEqual(leak(LOT, "p", "c"), ("xy", 0))
        self.assertEqual(secrets(LOT), [])

    def test_one_pair_for_each_last_table(self):
        # What the others learn depends on the order, and d sees q and never hears anything.
        house = House.matching(["p", "q", "r"], "p | q | r", a=["q", "r"], b=["p", "r"], c=["p", "q"], d=["q"])
        lot = Lot(MUD.within(house))
        self.assertEqual(lot.last_names(), ["vv", "vx", "xv"])
        self.assertEqual(twins(lot, "p", "d", 0), [("vv", 3), ("vx", 3), ("xv", 3)])
        self.assertEqual(twins(lot, "p", "d", 6), [("vv", 1), ("vx", 1), ("xv", 1)])
        self.assertIsNone(twins(lot, "q", "d", 6))
        self.assertEqual([row for row, _ in safe_paper(lot, "p", "d", 0)], [table.key for _, table in lot.walk()])

    def test_a_table_that_no_row_leads_to(self):
        # In this table everybody knows less than at the beginning.
        further = Table(QUIET.house, a=Split.whole(4), b=Split.whole(4), c=Split.whole(4))
        paper = safe_paper(QUIET_LOT, "p", "b", 0)
        self.assertIs(safe_holds(QUIET, "p", "b", 0, paper + [(further.key, 1)]), False)
        closed = [(table.key, 1) for table in (further, QUIET.after("y", table=further), QUIET.after("x", table=further),
                                               QUIET.after("xy", table=further))]
        self.assertIs(safe_holds(QUIET, "p", "b", 0, paper + closed), True)
        self.assertIs(safe_holds(QUIET, "p", "b", 0, closed), False)
        self.assertIs(safe_holds(QUIET, "p", "b", 0, closed + paper[1:] + paper), True)


class Struck(Checks):
    def test_against_all_rows(self):
        found = []
        for source, lot, behind in short_lots(111, 50, 3, 6):
            play = lot.play
            sets = ["".join(signs) for many in range(len(play.signs) + 1)
                    for signs in itertools.combinations(play.signs, many)]
            names = first_names(behind)
            for name, letter in itertools.product(play.house.facts(), play.house.people):
                known = {row: [case for case in range(play.house.size) if knows_whether(behind[row], name, letter, case)]
                         for row in names.values()}
                for cases in (None, [], (), [source.randrange(play.house.size)],
                              tuple(source.randrange(play.house.size) for _ in range(3))):
                    chosen = range(play.house.size) if cases is None else cases
                    wanted = [signs for signs in sets if not any(
                        case in known[names[table.key]] for row, table in behind.items() if not set(row) & set(signs)
                        for case in chosen)]
                    given = {} if cases is None else {"cases": cases}
                    self.assertEqual(fewest_struck(lot, name, letter, **given), wanted[0] if wanted else None)
                    found.append(wanted[0] if wanted else None)
        for wanted in (None, "", "d", "x", "z"):
            self.assertIn(wanted, found)
        self.assertIn(2, [len(wanted) for wanted in found if wanted])

    def test_by_hand(self):
        self.assertEqual(fewest_struck(LOT, "p", "c"), "x")
        self.assertEqual(fewest_struck(LOT, "p", "b"), "x")
        self.assertIsNone(fewest_struck(LOT, "p", "a"))
        self.assertEqual(fewest_struck(LOT, "p", "a", cases=[]), "")
        self.assertEqual(fewest_struck(LOT, "p", "a", cases=()), "")
        self.assertEqual(fewest_struck(QUIET_LOT, "p", "c"), "x")
        self.assertEqual(fewest_struck(QUIET_LOT, "p", "c", cases=[1, 0, 1]), "")
        self.assertEqual(fewest_struck(QUIET_LOT, "p", "c", cases=(3, 3)), "x")
        self.assertEqual(fewest_struck(QUIET_LOT, "q", "c"), "xy")
        self.assertEqual(fewest_struck(QUIET_LOT, "p", "b", cases=None), "")
        self.assertEqual(fewest_struck(Lot(CUBE), "p", "a"), "abcdef")
        self.assertEqual(fewest_struck(Lot(CUBE), "p", "a", cases=[0]), "f")


class Levels(Checks):
    def test_against_all_rows(self):
        truths, found = Truths(), []
        for source, lot, behind in short_lots(112, 40, 3, 6):
            order = ordered_names(behind)
            tables = [behind[name] for name in order]
            for _ in range(8):
                saying = random_saying(source, source.randint(1, 4), "".join(lot.play.house.facts()))
                case, group = source.randrange(lot.play.house.size), random_group(source, "abc")
                count, at = greatest_level(truths, tables, case, group, saying)
                self.assertEqual(best_level(lot, case, group, saying), (count, order[at]))
                self.assertEqual(best_level(lot, case, group, str(saying)), (count, order[at]))
                found.append((count, order[at] == ""))
            truths.known.clear()
        for place in ((None, True), (None, False), (0, True), (1, True), (1, False)):
            self.assertIn(place, found)

    def test_by_hand(self):
        self.assertEqual(best_level(LOT, 1, "c", "p"), (None, "xy"))
        self.assertEqual(best_level(LOT, 1, "abc", "p"), (None, "xy"))
        self.assertEqual(best_level(LOT, 0, "abc", "p"), (0, ""))
        self.assertEqual(best_level(LOT, 1, "bc", "~[c?]p"), (None, ""))
        self.assertEqual(best_level(Lot(PLAY.only("x")), 1, "c", "[b]p"), (1, "x"))
        self.assertEqual(best_level(Lot(PLAY.only("x")), 1, "ac", "p"), (1, ""))
        self.assertEqual(best_level(LOT, 0, "a", "true"), (None, ""))
        road = Lot(Play(ROAD.house, x="none"))
        self.assertEqual(best_level(road, 0, "ab", "p"), (11, ""))
        near = Lot(Play(PAIR.house, x="voice: p / a: true", y="look b: p"))
        self.assertEqual(best_level(near, 0, "ab", "p"), (None, "y"))


class Errors(Checks):
    def test_names_letters_and_cases(self):
        for letter, name, case in (("d", "q", 2), ("ab", "pq", -1), ("", "", HUGE), ("A", "P", -HUGE), ("abc", "true", 5)):
            wrong = ({"letter": letter}, UnknownPerson(letter)), ({"name": name}, UnknownFact(name))
            good = {"lot": LOT, "name": "p", "letter": "b"}
            for call in (safe_cases, leak):
                self.assert_errors_in_order(call, good, *wrong)
            for call in (twins, safe_paper):
                self.assert_errors_in_order(call, {**good, "case": 0}, *wrong, ({"case": case}, UnknownCase(case)))
            holding = {"play": PLAY, "name": "p", "letter": "b", "case": 0, "paper": []}
            self.assert_errors_in_order(safe_holds, holding, *wrong, ({"case": case}, UnknownCase(case)))
            for cases in ([0, case, 77], (case,), [1, 1, case]):
                self.assert_errors_in_order(fewest_struck, {**good, "cases": [0]}, *wrong,
                                            ({"cases": cases}, UnknownCase(case)))

    def test_best_level(self):
        good = {"lot": LOT, "case": 0, "group": "ab", "saying": "p"}
        for saying, error in (("[d]q", UnknownPerson("d")), ("[a]q", UnknownFact("q"))):
            for group, other in (("", BadGroup("")), ("ba", BadGroup("ba")), ("ad", UnknownPerson("d"))):
                self.assert_errors_in_order(best_level, good, ({"group": group}, other), ({"saying": saying}, error),
                                            ({"case": 2}, UnknownCase(2)))
        self.assert_errors_in_order(best_level, good, ({"saying": "p |"}, BadSaying(3)), ({"group": "i"}, BadGroup("i")),
                                    ({"case": -1}, UnknownCase(-1)))
        self.assertEqual(best_level(LOT, 1, "ab", Truth(True)), (None, ""))
        self.assertEqual(best_level(LOT, 1, "ab", Fact("p")), (None, "x"))

    def test_nothing_is_changed(self):
        for call, arguments in ((safe_cases, ("p", "b")), (secrets, ()), (twins, ("p", "b", 0)), (safe_paper, ("p", "b", 0))):
            self.assert_fresh_list(call, QUIET_LOT, *arguments)
        paper = safe_paper(QUIET_LOT, "p", "b", 0)
        kept, cases = list(paper), [1, 1, 0]
        safe_holds(QUIET, "p", "b", 0, paper)
        fewest_struck(QUIET_LOT, "p", "c", cases=cases)
        self.assertEqual((paper, cases), (kept, [1, 1, 0]))
        self.assertEqual(QUIET.house, House(["p", "q"], ["00", "10", "01", "11"], a=[0, 1, 2, 3], b=[0, 0, 1, 1], c=[0] * 4))
        self.assertEqual(HOUSE, LOT.play.house)


if __name__ == "__main__":
    unittest.main()
