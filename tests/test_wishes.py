import itertools
import unittest

from thinwall.deeds import Deed
from thinwall.errors import BadSaying, UnknownCase, UnknownDeed, UnknownFact, UnknownPerson
from thinwall.houses import House
from thinwall.lots import Lot
from thinwall.plays import Play
from thinwall.sayings import And, Fact, Knows, Not, Truth, Whether
from thinwall.splits import Split
from thinwall.tables import Table
from thinwall.wishes import (always, at_last, closed_holds, closed_tables, fewest_deeds, firm_break, once, row_holds,
                             shortest)
from rows import CUBE, HOUSE, LOT, MUD, PLAY, Truths, first_names, ordered_names, short_lots, tables_behind
from support import HUGE, Checks, random_saying

# Shortly: x lets b know, y lets c know, and z lets both know at once.
WAYS = Play(House(["p"], ["0", "1"], a=[0, 1], b=[0, 0], c=[0, 0]),
            x="tell a: p / b: true", y="tell b: p / c: true", z="tell a: p / b: true / c: true")
WAYS_LOT = Lot(WAYS)


def random_aims(source, truths, lot, many):
    """Wishes, what must never be, and cases; None stands for what is not passed."""
    house, tables = lot.play.house, [table for _, table in lot.walk()]
    facts = "".join(house.facts())
    for _ in range(many):
        cases = source.choice([None, [], (), [source.randrange(house.size)], [source.randrange(house.size)],
                               tuple(source.randrange(house.size) for _ in range(3))])
        chosen = range(house.size) if cases is None else cases
        target = source.choice(tables)
        told = [random_saying(source, source.randint(1, 4), facts) for _ in range(12)]
        told += [kind(letter, Fact(name)) for kind in (Knows, Whether) for letter in "abc" for name in facts]
        told += [And(one, Not(other)) for one in told[12:] for other in source.sample(told[12:], 2)]

        def true_somewhere(table, saying):
            return any(truths(table, case, saying) for case in chosen)

        def true_everywhere(table, saying):
            return all(truths(table, case, saying) for case in chosen)

        fresh = [one for one in told if true_everywhere(target, one) and not true_everywhere(lot.play.start, one)]
        # What is true only on the way to the target makes other rows to it the better ones.
        way = [lot.after(lot.name_of(target)[:at]) for at in range(1, len(lot.name_of(target)))]
        late = [one for one in told if not true_somewhere(lot.play.start, one) and not true_somewhere(target, one)
                and any(true_somewhere(table, one) for table in way or tables)]
        wish = source.choice(fresh) if fresh and source.random() < 0.8 else source.choice(told)
        if len(fresh) > 1 and source.random() < 0.5:
            wish = And(*source.sample(fresh, 2))
        never = source.choice(late) if late and source.random() < 0.8 else source.choice(told)
        yield wish, source.choice([None, never, never]), cases


def keywords(never, cases):
    given = {"cases": cases} if cases is not None else {}
    return {**given, "never": never} if never is not None else given


class Oracle:
    """What is good and what meets the wish, read off point 46."""

    def __init__(self, truths, house, wish, never, cases):
        self.truths = truths
        self.wish, self.never = wish, Truth(False) if never is None else never
        self.cases = list(range(house.size)) if cases is None else list(cases)

    def good(self, table):
        return not any(self.truths(table, case, self.never) for case in self.cases)

    def met(self, table):
        return all(self.truths(table, case, self.wish) for case in self.cases)

    def good_rows(self, behind):
        """The good ones of the rows, in their order."""
        found = {}
        for row, table in behind.items():
            if (row == "" or row[:-1] in found) and self.good(table):
                found[row] = True
        return list(found)

    def closed(self, play, keys):
        """Whether the keys are a paper, read off point 48."""
        if self.good(play.start) and play.start.key not in keys:
            return False
        for key in keys:
            if not is_key(key, play.house):
                return False
            table = Table(play.house, **{letter: Split(list(marks)) for letter, marks in zip(play.house.people, key)})
            if not self.good(table) or self.met(table):
                return False
            for sign in play.signs:
                after = play.deed(sign)(table)
                if self.good(after) and after.key not in keys:
                    return False
        return True


def is_key(key, house):
    if len(key) != len(house.people) or any(len(marks) != house.size for marks in key):
        return False
    return all(all(mark == marks.index(mark) if mark in marks and 0 <= mark < len(marks) else False for mark in marks)
               and all(marks[mark] == mark for mark in marks) for marks in key)


def changed_keys(source, play, keys):
    """Lists of keys that differ a little from these, some of which are still a paper."""
    keys = list(keys)
    yield keys[::-1] + keys[:2]
    for at in range(len(keys)):
        yield keys[:at] + keys[at + 1:]
    random_key = tuple(tuple(Split([source.randrange(2) for _ in range(play.house.size)]).marks()) for _ in play.house.people)
    yield keys + [random_key]
    further = {table.key for table in tables_behind(play, 3, Table.keyed(play.house, random_key)).values()}
    yield keys + sorted(further)
    if not keys:
        return
    at = source.randrange(len(keys))
    key = keys[at]
    for other in (key[1:], key + key[:1], (), key[::-1], (key[0][1:],) + key[1:], (key[0] + (0,),) + key[1:],
                  (tuple(mark + 1 for mark in key[0]),) + key[1:], ((-1,) + key[0][1:],) + key[1:],
                  ((HUGE,) + key[0][1:],) + key[1:], (key[0][:-1] + (play.house.size,),) + key[1:]):
        yield keys[:at] + [other] + keys[at + 1:]
        yield keys + [other]


class Reaching(Checks):
    def test_against_all_rows(self):
        truths, lengths, not_least = Truths(), [], 0
        for source, lot, behind in short_lots(202, 22, 5, 7):
            play = lot.play
            for wish, never, cases in random_aims(source, truths, lot, 12):
                oracle = Oracle(truths, play.house, wish, never, cases)
                given = keywords(never, cases)
                good = oracle.good_rows(behind)
                fitting = [row for row in good if oracle.met(behind[row])]
                wanted = fitting[0] if fitting else None
                self.assertEqual(shortest(lot, wish, **given), wanted)
                lengths.append(None if wanted is None else len(wanted))
                not_least += wanted is not None and lot.least(wanted) != wanted
                for row in source.sample(list(behind), min(12, len(behind))) + fitting[:3] + fitting[-2:] + good[-2:]:
                    self.assertIs(row_holds(play, row, wish, **given), row in fitting)
                self.check_closed(source, lot, oracle, wish, given, good, behind)
                self.check_fewest(play, lot, oracle, wish, given, good, behind)
            truths.known.clear()
        for length in (None, 0, 1, 2):
            self.assertIn(length, lengths)
        self.assertGreater(not_least, 0)

    def check_closed(self, source, lot, oracle, wish, given, good, behind):
        names = first_names(behind)
        found = closed_tables(lot, wish, **given)
        if shortest(lot, wish, **given) is not None:
            self.assertIsNone(found)
            for some in ([], list(names.values()), list({names[behind[row].key] for row in good})):
                self.assertIs(closed_holds(lot.play, [lot.after(name).key for name in some], wish, **given), False)
            return
        reached = {names[behind[row].key] for row in good}
        self.assertEqual(found, [name for name in ordered_names(behind) if name in reached])
        keys = [lot.after(name).key for name in found]
        self.assertIs(closed_holds(lot.play, keys, wish, **given), True)
        if source.random() < 0.12:
            for changed in changed_keys(source, lot.play, keys):
                self.assertIs(closed_holds(lot.play, changed, wish, **given), oracle.closed(lot.play, changed), changed)

    def check_fewest(self, play, lot, oracle, wish, given, good, behind):
        sets = ["".join(signs) for many in range(len(play.signs) + 1)
                for signs in itertools.combinations(play.signs, many)]
        wanted = [signs for signs in sets if any(set(row) <= set(signs) and oracle.met(behind[row]) for row in good)]
        self.assertEqual(fewest_deeds(lot, wish, **given), wanted[0] if wanted else None)

    def test_the_least_good_row_is_not_a_least_name(self):
        # Both rows lead to the same table, but with z nobody is ever left behind.
        self.assertEqual(WAYS_LOT.names(), ["", "x", "z"])
        self.assertEqual(WAYS_LOT.least("xy"), "z")
        never = "[c?]p & ~[b?]p"
        self.assertEqual(shortest(WAYS_LOT, "[c?]p", never=never), "z")
        self.assertEqual(shortest(LOT, "[c?]p"), "xy")
        play = Play(HOUSE, u="tell a: p / c: true", v="tell a: p / b: true", w="tell a: p / b: true / c: true")
        lot = Lot(play)
        self.assertEqual(lot.least("uv"), "w")
        self.assertEqual(lot.names(), ["", "u", "v", "w"])
        play = Play(HOUSE, u="tell a: p / c: true", v="tell a: p / b: true")
        lot = Lot(play)
        self.assertEqual((lot.least("vu"), shortest(lot, "[b?]p & [c?]p")), ("uv", "uv"))
        self.assertEqual(shortest(lot, "[b?]p & [c?]p", never="[c?]p & ~[b?]p"), "vu")
        self.assertEqual(closed_tables(lot, "false", never="[c?]p & ~[b?]p"), ["", "v", "uv"])
        self.assertIs(row_holds(play, "uv", "[b?]p & [c?]p", never="[c?]p & ~[b?]p"), False)
        self.assertIs(row_holds(play, "vvuv", "[b?]p & [c?]p", never="[c?]p & ~[b?]p"), True)

    def test_never_in_the_first_table_on_the_way_and_at_the_end_only(self):
        self.assertIsNone(shortest(LOT, "true", never="[a?]p"))
        self.assertEqual(closed_tables(LOT, "true", never="[a?]p"), [])
        self.assertIs(row_holds(PLAY, "", "true", never="[a?]p"), False)
        self.assertIsNone(fewest_deeds(LOT, "true", never="[a?]p"))
        self.assertIs(closed_holds(PLAY, [], "true", never="[a?]p"), True)
        # On the way only b knows, and at the end c knows, too.
        self.assertIsNone(shortest(LOT, "[c?]p", never="[b?]p & ~[c?]p"))
        self.assertEqual(closed_tables(LOT, "[c?]p", never="[b?]p & ~[c?]p"), [""])
        self.assertIs(row_holds(PLAY, "xy", "[c?]p", never="[b?]p & ~[c?]p"), False)
        self.assertIs(row_holds(PLAY, "yyyx", "[b?]p", never="[c?]p"), True)
        self.assertIs(row_holds(PLAY, "yyyxy", "[b?]p", never="[c?]p"), False)
        self.assertIs(row_holds(PLAY, "xy", "[c?]p", never="[c?]p"), False)
        self.assertIs(row_holds(PLAY, "xy", "[b?]p", never="[c?]p"), False)
        self.assertEqual(closed_tables(LOT, "[c?]p", never="[c?]p"), ["", "x"])
        self.assertIs(closed_holds(PLAY, [PLAY.start.key, PLAY.after("x").key], "[c?]p", never="[c?]p"), True)
        self.assertIs(closed_holds(PLAY, [PLAY.start.key], "[c?]p", never="[c?]p"), False)

    def test_a_table_that_no_row_leads_to(self):
        # In this table a does not know p either, so nobody ever learns it.
        further = Table(HOUSE, a=Split.whole(2)).key
        keys = [PLAY.start.key, PLAY.after("x").key, PLAY.after("xy").key]
        self.assertIs(closed_holds(PLAY, keys + [further], "[b]p"), True)
        self.assertIs(closed_holds(PLAY, [further], "[b]p"), False)
        self.assertIs(closed_holds(PLAY, keys[1:] + keys, "[b]p"), True)
        for key in ((), keys[0][:2], keys[0] + ((0, 0),), ((0, 0, 0),) * 3, ((0,),) * 3, ((1, 1),) * 3, ((0, 1), (0, 0), (0, 2)),
                    ((0, -1),) * 3, ((0, HUGE),) * 3, ((), (), ())):
            self.assertIs(closed_holds(PLAY, keys + [key], "[b]p"), False, key)

    def test_at_the_beginning_and_never(self):
        self.assertEqual(shortest(LOT, "[a?]p"), "")
        self.assertEqual(fewest_deeds(LOT, "[a?]p"), "")
        self.assertIsNone(closed_tables(LOT, "[a?]p"))
        self.assertIsNone(shortest(LOT, "[b]p"))
        self.assertEqual(closed_tables(LOT, "[b]p"), ["", "x", "xy"])
        self.assertEqual(shortest(LOT, "[b]p", cases=[1]), "x")
        self.assertEqual(fewest_deeds(LOT, "[b]p", cases=(1, 1)), "x")
        self.assertEqual(fewest_deeds(LOT, "[c?]p"), "xy")
        self.assertEqual(fewest_deeds(WAYS_LOT, "[c?]p"), "z")
        self.assertEqual(fewest_deeds(WAYS_LOT, "[b?]p"), "x")

    def test_cases(self):
        for cases in ([], ()):
            for wish, never in (("false", "false"), ("false", "true"), ("[b]p", "[a?]p")):
                self.assertEqual(shortest(LOT, wish, never=never, cases=cases), "")
                self.assertIs(row_holds(PLAY, "xyx", wish, never=never, cases=cases), True)
                self.assertIsNone(closed_tables(LOT, wish, never=never, cases=cases))
                self.assertEqual(fewest_deeds(LOT, wish, never=never, cases=cases), "")
                self.assertIs(closed_holds(PLAY, [], wish, never=never, cases=cases), False)
                self.assertIs(closed_holds(PLAY, [PLAY.start.key], wish, never=never, cases=cases), False)
        for cases in ([1], (1,), [1, 1, 1], (1, 1)):
            self.assertEqual(shortest(LOT, "[b]p", cases=cases), "x")
            self.assertEqual(closed_tables(LOT, "[c]p", never="[b]p", cases=cases), [""])
        self.assertEqual(shortest(LOT, "[b?]p", never="[b]p", cases=[0]), "x")
        self.assertIsNone(shortest(LOT, "[b?]p", never="[b]p", cases=[1, 0, 1]))
        self.assertEqual(shortest(LOT, "[b?]p", cases=None), "x")

    def test_mud(self):
        lot = Lot(MUD)
        self.assertEqual(shortest(lot, "[a?]p & [b?]q & [c?]r"), "vv")
        self.assertEqual(fewest_deeds(lot, "[a?]p & [b?]q & [c?]r"), "v")
        self.assertEqual(closed_tables(lot, "[abc*](p | q | r) & [a]p"), lot.names())

    def test_a_lot_with_many_tables(self):
        lot = Lot(CUBE)
        self.assertEqual(shortest(lot, "[a?]p & [a?]u", never="[a?]s", cases=[0]), "af")
        self.assertIsNone(shortest(lot, "[a?]p & [a?]u", never="[a?]s"))
        self.assertEqual(fewest_deeds(lot, "[a](p & q & r & s & t & u)", cases=[0]), "abcdef")
        closed = closed_tables(lot, "false", never="[a?]p", cases=[0])
        self.assertEqual(closed, [name for name in lot.names() if "f" not in name])
        # The good rows ba, bc, and ca lead to the tables ab, bc, and ac.
        few = Lot(CUBE.only("abc"))
        self.assertEqual(closed_tables(few, "false", never="[a]u & ~[a]s & ~[a]t", cases=[0]), ["", "b", "c", "ab", "ac", "bc", "abc"])
        keys = [lot.after(name).key for name in closed]
        self.assertIs(closed_holds(CUBE, keys, "false", never="[a?]p", cases=[0]), True)
        self.assertIs(closed_holds(CUBE, keys[:-1], "false", never="[a?]p", cases=[0]), False)


class OnceAlwaysAtLast(Checks):
    def test_against_all_rows(self):
        truths, breaks = Truths(), 0
        for source, lot, behind in short_lots(101, 25, 4, 6):
            play, names = lot.play, first_names(behind)
            tables = [behind[name] for name in names.values()]
            last = [table for table in tables if all(play.deed(sign)(table) == table for sign in play.signs)]
            for _ in range(12):
                saying = random_saying(source, source.randint(1, 5), "".join(play.house.facts()))
                if source.random() < 0.4:
                    saying = Not(Whether(source.choice("abc"), saying))
                cases = range(play.house.size)
                self.assertEqual(once(lot, saying), [
                    case for case in cases if any(truths(table, case, saying) for table in tables)])
                self.assertEqual(always(lot, str(saying)), [
                    case for case in cases if all(truths(table, case, saying) for table in tables)])
                self.assertEqual(at_last(lot, saying), [
                    case for case in cases if all(truths(table, case, saying) for table in last)])
                broken = [(names[table.key], sign, case) for table in tables for sign in play.signs for case in cases
                          if truths(table, case, saying) and not truths(play.deed(sign)(table), case, saying)]
                self.assertEqual(firm_break(lot, saying), broken[0] if broken else None)
                breaks += len(broken) > 1
                if saying.positive:
                    self.assertEqual(broken, [])
            truths.known.clear()
        self.assertGreater(breaks, 20)

    def test_by_hand(self):
        self.assertEqual([once(LOT, "[c]p"), always(LOT, "[c]p"), at_last(LOT, "[c]p")], [[1], [], [1]])
        self.assertEqual([once(LOT, "~[c?]p"), always(LOT, "~[c?]p"), at_last(LOT, "~[c?]p")], [[0, 1], [], []])
        self.assertEqual([once(LOT, "p"), always(LOT, "p"), at_last(LOT, "p")], [[1], [1], [1]])
        self.assertEqual(firm_break(LOT, "~[c?]p"), ("x", "y", 0))
        self.assertEqual(firm_break(LOT, "~[bc]p"), ("x", "y", 1))
        self.assertEqual(firm_break(WAYS_LOT, "~[c?]p"), ("", "z", 0))
        self.assertEqual(firm_break(WAYS_LOT, "~[b?]p"), ("", "x", 0))
        self.assertEqual(firm_break(WAYS_LOT, "~[b]p"), ("", "x", 1))
        self.assertIsNone(firm_break(LOT, "[b?]p"))
        self.assertIsNone(firm_break(LOT, "~p"))
        still = Lot(Play(HOUSE, x=Deed(), y="none / b: true"))
        self.assertEqual((firm_break(still, "~[b?]p"), at_last(still, "~[b?]p")), (None, [0, 1]))


class Errors(Checks):
    def test_the_order(self):
        good = {"lot": LOT, "wish": "p", "never": "false", "cases": [0]}
        for call in (shortest, closed_tables, fewest_deeds):
            self.check_order(call, good)
        closing = {"play": PLAY, "keys": [PLAY.start.key], "wish": "p", "never": "false", "cases": [0]}
        self.check_order(closed_holds, closing)
        holding = {"play": PLAY, "row": "xy", "wish": "p", "never": "false", "cases": [0]}
        self.check_order(row_holds, holding)
        for row, error in (("xz", UnknownDeed("z", 1)), ("-", UnknownDeed("-", 0)), ("xX", UnknownDeed("X", 1))):
            self.assert_errors_in_order(row_holds, holding, ({"wish": "p &"}, BadSaying(3)),
                                        ({"row": row}, error), ({"cases": [5]}, UnknownCase(5)),
                                        ({"never": "[h]p"}, UnknownPerson("h")))
            self.assert_errors_in_order(row_holds, holding, ({"never": ""}, BadSaying(0)), ({"row": row}, error),
                                        ({"wish": "s"}, UnknownFact("s")))

    def check_order(self, call, good):
        for cases, case in (([2], 2), ((0, -1, 7), -1), ([1, HUGE, -HUGE], HUGE), ((2, 2), 2)):
            self.assert_errors_in_order(call, good, ({"wish": "p("}, BadSaying(1)), ({"never": "q)"}, BadSaying(1)),
                                        ({"cases": cases}, UnknownCase(case)))
            self.assert_errors_in_order(call, good, ({"cases": cases}, UnknownCase(case)),
                                        ({"wish": "[h]q"}, UnknownPerson("h")), ({"never": "[ag]p"}, UnknownPerson("g")))
            self.assert_errors_in_order(call, good, ({"cases": cases}, UnknownCase(case)),
                                        ({"wish": "[a]q & r"}, UnknownFact("q")), ({"never": "s"}, UnknownFact("s")))
        for wish in ("[h]p", Knows("h", Truth(True))):
            self.assert_errors_in_order(call, good, ({"never": "&"}, BadSaying(0)), ({"wish": wish}, UnknownPerson("h")))
        # The sayings are checked also where there are no cases.
        self.assert_error(UnknownFact("q"), call, **{**good, "cases": [], "wish": "q"})
        self.assert_error(UnknownFact("q"), call, **{**good, "cases": (), "never": "q"})

    def test_sayings(self):
        for call in (once, always, at_last, firm_break):
            good = {"lot": LOT, "saying": "p"}
            for saying, error in (("p p", BadSaying(2)), ("[d]q", UnknownPerson("d")), ("[a]q", UnknownFact("q"))):
                self.assert_errors_in_order(call, good, ({"saying": saying}, error))

    def test_nothing_is_changed(self):
        cases, keys = [1, 0, 1], [PLAY.start.key, PLAY.start.key]
        for call in (shortest, closed_tables, fewest_deeds):
            call(LOT, "[b]p", cases=cases)
            self.assertEqual(cases, [1, 0, 1])
        closed_holds(PLAY, keys, "[b]p", cases=cases)
        self.assertEqual((cases, keys), ([1, 0, 1], [PLAY.start.key, PLAY.start.key]))
        self.assert_fresh_list(closed_tables, LOT, "false")
        for call in (once, always, at_last):
            self.assert_fresh_list(call, LOT, "p")
        kept = {name: list(value) for name, value in vars(LOT).items() if isinstance(value, list)}
        self.assertEqual(kept["_names"], ["", "x", "xy"])


if __name__ == "__main__":
    unittest.main()
