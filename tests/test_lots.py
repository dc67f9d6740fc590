import copy
import itertools
import unittest
from unittest import mock

from thinwall.alike import alike_pairs
from thinwall.errors import TooMany, UnknownDeed
from thinwall.houses import House
from thinwall.lots import MOST_TABLES, Lot
from thinwall.plays import Play
from thinwall.splits import Split
from thinwall.tables import Table
from rows import BIG, CUBE, HOUSE, HUGE_PLAY, LOT, MUD, PLAY, first_names, some_lots, tables_behind
from support import Checks


class TheTables(Checks):
    def test_the_example(self):
        self.assertEqual([LOT.names(), LOT.least("yxx"), LOT.telling("x"), LOT.last_names(), LOT.longest()],
                         [["", "x", "xy"], "x", "y", ["xy"], "xy"])
        self.assertIs(LOT.play, PLAY)

    def test_against_all_rows_one_after_the_other(self):
        sizes = set()
        for source, play, behind in list(some_lots(80, 50)) + list(some_lots(83, 15, 6)):
            lot = Lot(play)
            names = first_names(behind)
            order = list(names.values())
            tables = {name: behind[name] for name in order}
            self.assertEqual(lot.names(), order)
            self.assertEqual(len(lot), len(order))
            self.assertEqual(list(lot.walk()), list(tables.items()))
            for row in source.sample(list(behind), min(40, len(behind))):
                self.assertEqual(lot.after(row), behind[row])
                self.assertEqual(lot.least(row), names[behind[row].key])
                self.assertEqual(lot.name_of(behind[row]), names[behind[row].key])
                self.assertIs(behind[row] in lot, True)
                self.assertEqual(lot.telling(row), "".join(
                    sign for sign in play.signs if play.deed(sign)(behind[row]) != behind[row]))
            self.assertEqual(lot.steps(), [(name, sign, names[play.deed(sign)(table).key])
                                           for name, table in tables.items() for sign in play.signs])
            last = [name for name, table in tables.items() if all(play.deed(sign)(table) == table for sign in play.signs)]
            self.assertEqual(lot.last_names(), last)
            essential = {"": True}
            for row in list(behind)[1:]:
                if row[:-1] in essential and behind[row] != behind[row[:-1]]:
                    essential[row] = True
            essential = list(essential)
            self.assertEqual(lot.longest(), [row for row in essential if len(row) == len(essential[-1])][0])
            sizes.add(len(order))
        self.assertGreater(max(sizes), 6)
        self.assertIn(1, sizes)

    def test_going_on_against_all_rows(self):
        found = []
        for source, play, behind in some_lots(81, 25, 5):
            lot = Lot(play)
            for row, other in itertools.product(lot.names()[:6], lot.names()[:6]):
                further = tables_behind(play, behind[row].room, behind[row])
                wanted = [more for more, table in further.items() if table == behind[other]][:1]
                self.assertEqual(lot.behind(row, other), wanted[0] if wanted else None)
                found.append(wanted)
        self.assertIn([], found)
        self.assertGreater(max(len(rows[0]) for rows in found if rows), 2)

    def test_classes_by_their_words(self):
        smaller = 0
        for _, play, behind in some_lots(82, 40, 5):
            lot = Lot(play)
            tables = dict(lot.walk())
            wanted = []
            for name, table in tables.items():
                fits = [one for one in wanted if all(
                    (case, case) in alike_pairs(tables[one[0]], table) for case in range(play.house.size))]
                if fits:
                    fits[0].append(name)
                else:
                    wanted.append([name])
            self.assertEqual(lot.classes(), wanted)
            smaller += len(wanted) < len(tables)
            self.assert_fresh_list(lot.classes)
            # Behind the same deed, tables of one class are again in one class.
            place = {name: at for at, one in enumerate(wanted) for name in one}
            ways = {(place[name], sign, place[behind]) for name, sign, behind in lot.steps()}
            self.assertEqual(len(ways), len({way[:2] for way in ways}))
        self.assertGreater(smaller, 5)

    def test_six_deeds_in_any_order(self):
        lot = Lot(CUBE)
        self.assertEqual(len(lot), 64)
        self.assertEqual(lot.names(), ["".join(signs) for many in range(7) for signs in itertools.combinations("abcdef", many)])
        self.assertEqual(lot.least("fedcbafff"), "abcdef")
        self.assertEqual(lot.telling("fac"), "bde")
        self.assertEqual((lot.last_names(), lot.longest()), (["abcdef"], "abcdef"))
        self.assertEqual((lot.behind("a", "fbax"[:3]), lot.behind("ab", "a"), lot.behind("ab", "ba")), ("bf", None, ""))
        self.assertEqual(len(lot.steps()), 64 * 6)

    def test_a_deed_that_tells_something_several_times(self):
        lot = Lot(MUD)
        self.assertEqual(lot.names(), ["", "v", "x", "vv", "vx", "xv"])
        self.assertEqual((lot.longest(), lot.last_names()), ("vv", ["vv", "vx", "xv"]))
        self.assertEqual([lot.telling(row) for row in ("", "v", "x", "vvv")], ["vx", "vx", "v", ""])
        self.assertEqual((lot.after("vv").room, lot.behind("v", "vvvv"), lot.behind("x", "vv")), (0, "v", None))
        for name, sign, behind in lot.steps():
            self.assertTrue(lot.after(behind).finer(lot.after(name)))
            self.assertEqual(sign in lot.telling(name), behind != name)
            self.assertEqual(lot.after(behind).room < lot.after(name).room, behind != name)

    def test_rows_of_any_length(self):
        row = "yx" * 500
        self.assertEqual(LOT.least(row), "xy")
        self.assertEqual(LOT.after(row), PLAY.after("xy"))
        self.assertEqual(LOT.behind(row, "xy" * 300), "")

    def test_no_deeds(self):
        lot = Lot(Play(HOUSE))
        self.assertEqual([lot.names(), lot.steps(), lot.telling(""), lot.last_names(), lot.longest(), lot.classes()],
                         [[""], [], "", [""], "", [[""]]])
        self.assertEqual(lot.behind("", ""), "")


class Searching(Checks):
    def test_how_often_and_in_which_order(self):
        lot = Lot(CUBE)
        for stop in ("", "a", "cf", "abcdef"):
            asked = []

            def wish(table):
                asked.append(table)
                return table == CUBE.after(stop)
            self.assertEqual(lot.search(wish), stop)
            before = lot.names()[:lot.names().index(stop) + 1]
            self.assertEqual(asked, [lot.after(name) for name in before])
        asked = []
        self.assertIsNone(lot.search(lambda table: bool(asked.append(table))))
        self.assertEqual(asked, [table for _, table in lot.walk()])

    def test_errors_of_the_wish_go_on(self):
        self.assertRaises(KeyError, LOT.search, lambda table: {}[table.key])


class TablesInLots(Checks):
    def test_in_and_name_of(self):
        self.assertIs(PLAY.start in LOT, True)
        self.assertEqual(LOT.name_of(Table(HOUSE, b=Split.apart(2))), "x")
        for table in (Table(HOUSE, c=Split.apart(2)), Table(HOUSE, a=Split.whole(2)),
                      Table(House(["p"], ["1", "0"], a=[0, 1], b=[0, 0], c=[0, 0])),
                      Table(House(["q"], ["0", "1"], a=[0, 1], b=[0, 0], c=[0, 0])),
                      Table(House(["p"], ["0", "1"], a=[0, 1], b=[0, 0], d=[0, 0])),
                      Table(House(["p"], ["0"], a=[0], b=[0], c=[0]))):
            self.assertIs(table in LOT, False)
            self.assertIsNone(LOT.name_of(table))

    def test_a_table_of_another_house_with_the_key_of_a_table_of_the_lot(self):
        # The eyes differ, and so do the houses, although the splits are those of a table of the lot.
        house = House(["p"], ["0", "1"], a=[0, 1], b=[0, 1], c=[0, 0])
        self.assertEqual(Table(house).key, PLAY.after("x").key)
        self.assertIs(Table(house) in LOT, False)
        self.assertIsNone(LOT.name_of(Table(house)))
        again = Table(House(["p"], ["0", "1"], a=[4, 3], b=[7, 7], c=[0, 0]))
        self.assertIs(again in LOT, True)


class Bounds(Checks):
    def test_just_below_and_just_at_the_number_of_tables(self):
        self.assertEqual(MOST_TABLES, 300)
        self.assertEqual(len(Lot(PLAY, most=3)), 3)
        self.assertEqual(len(Lot(CUBE, most=64)), 64)
        self.assert_error(TooMany(2), Lot, PLAY, most=2)
        self.assert_error(TooMany(1), Lot, PLAY, most=1)
        self.assert_error(TooMany(63), Lot, CUBE, most=63)
        self.assertEqual(len(Lot(Play(HOUSE), most=1)), 1)
        for most in (0, -1, -1000):
            self.assert_error(TooMany(most), Lot, PLAY, most=most)
            self.assert_error(TooMany(most), Lot, Play(HOUSE), most=most)

    def test_the_bound_without_a_word(self):
        self.assert_error(TooMany(300), Lot, BIG)
        lot = Lot(BIG, most=317)
        self.assertEqual(len(lot), 317)
        self.assertEqual(lot.names(), Lot(BIG, most=1000).names())
        self.assertEqual(len({table.key for _, table in lot.walk()}), 317)
        self.assert_error(TooMany(316), Lot, BIG, most=316)

    def test_it_stops_at_the_bound(self):
        for most in (1000, 10):
            done = []
            with mock.patch.object(Table, "parted", counting(Table.parted, done)):
                self.assertRaises(TooMany, Lot, HUGE_PLAY, most=most)
            self.assertLessEqual(len(done), 6 * (most + 1))


def counting(method, done):
    def counted(*args, **keywords):
        done.append(1)
        return method(*args, **keywords)
    return counted


class Errors(Checks):
    def test_rows_with_characters_that_are_no_signs(self):
        for row, sign, place in (("z", "z", 0), ("xyA", "A", 2), ("x y", " ", 1), ("xyxy-?", "-", 4)):
            for call in (LOT.after, LOT.least, LOT.telling, lambda one: LOT.behind(one, "q"), lambda one: LOT.behind("", one)):
                self.assert_error(UnknownDeed(sign, place), call, row)
        self.assert_errors_in_order(LOT.behind, {"row": "x", "other": "xy"}, ({"row": "xb"}, UnknownDeed("b", 1)),
                                    ({"other": "a"}, UnknownDeed("a", 0)))

    def test_nothing_is_changed(self):
        lot = Lot(PLAY)
        kept = copy.deepcopy(lot.__dict__)
        for method in (lot.names, lot.steps, lot.last_names, lot.classes):
            self.assert_fresh_list(method)
        list(lot.walk()), lot.after("xy"), lot.behind("x", "xy"), lot.longest(), lot.search(lambda table: False)
        self.assertEqual(lot.__dict__, kept)
        self.assertEqual(next(lot.walk()), ("", PLAY.start))


if __name__ == "__main__":
    unittest.main()
