import itertools
import unittest

from thinwall.acts import Look, Turn
from thinwall.deeds import Deed, Voice
from thinwall.errors import TooMany, UnknownDeed
from thinwall.lots import Lot
from thinwall.orders import covers, echoes, endings, free_pairs, idle, order_clash
from thinwall.plays import Play
from oracles import random_house
from rows import CUBE, HOUSE, LOT, MUD, PLAY, first_names, ordered_names, short_lots
from support import Checks, random_plain, source_of

MUD_LOT = Lot(MUD)


def first_difference(one, other):
    """The letter and the pair of cases of the first difference of two tables."""
    size = one.house.size
    return [(letter, low, high) for letter in one.house.people
            for low, high in itertools.combinations(range(size), 2)
            if one.view(letter).together(low, high) != other.view(letter).together(low, high)][0]


def done(play, table, row):
    for sign in row:
        table = play.deed(sign)(table)
    return table


def clash_by_words(play, tables, first, second):
    for name, table in tables.items():
        one, other = done(play, table, first + second), done(play, table, second + first)
        if one != other:
            return (name, *first_difference(one, other))
    return None


def endings_by_words(behind_row, names, row):
    """The endings, found by going through all arrangements; behind_row tells the table behind a row."""
    found = {}
    for order in sorted({"".join(signs) for signs in itertools.permutations(row)}):
        name = names(behind_row(order))
        found.setdefault(name, order)
    return [(order, name) for name, order in found.items()]


class Orders(Checks):
    def test_against_all_rows(self):
        clashes, counts, covered = [], [], []
        for _, lot, behind in short_lots(120, 60, 3, 6):
            play, order = lot.play, ordered_names(behind)
            tables = {name: behind[name] for name in order}
            for first, second in itertools.product(play.signs, play.signs):
                wanted = clash_by_words(play, tables, first, second)
                self.assertEqual(order_clash(lot, first, second), wanted)
                clashes.append(wanted)
                wanted = [name for name, table in tables.items()
                          if done(play, table, first + second) != done(play, table, first)]
                self.assertEqual(covers(lot, first, second), wanted[0] if wanted else None)
                covered.append(wanted[0] if wanted else None)
            self.assertEqual(free_pairs(lot), [
                (first, second) for first, second in itertools.combinations(play.signs, 2)
                if clash_by_words(play, tables, first, second) is None])
            for sign in play.signs:
                many = {name: [count for count in range(8) if done(play, table, sign * count) == done(
                    play, table, sign * (count + 1))][0] for name, table in tables.items()}
                most = max(many.values())
                self.assertEqual(echoes(lot, sign), (most, [name for name in order if many[name] == most][0]))
                counts.append(echoes(lot, sign))
            self.assertEqual(idle(lot), "".join(sign for sign in play.signs if all(
                play.deed(sign)(table) == table for table in tables.values())))
        self.assertGreater(len([one for one in clashes if one and one[0] == ""]), 2)
        self.assertGreater(len([one for one in clashes if one is None]), 20)
        self.assertLessEqual({0, 1}, {count for count, _ in counts})
        self.assertLessEqual({None, ""}, set(covered))

    def test_the_example(self):
        self.assertEqual([order_clash(LOT, "x", "y"), endings(LOT, "yx")], [("", "c", 0, 1), [("xy", "xy"), ("yx", "x")]])

    def test_both_signs_the_same(self):
        for lot, signs in ((LOT, "xy"), (MUD_LOT, "vx"), (Lot(CUBE), "abcdef")):
            for sign in signs:
                self.assertIsNone(order_clash(lot, sign, sign))
        self.assertIsNone(covers(LOT, "x", "x"))
        self.assertEqual(covers(MUD_LOT, "v", "v"), "")
        self.assertEqual(endings(MUD_LOT, "vv"), [("vv", "vv")])

    def test_by_hand(self):
        self.assertEqual(order_clash(LOT, "y", "x"), ("", "c", 0, 1))
        self.assertEqual(free_pairs(LOT), [])
        self.assertEqual(free_pairs(Lot(CUBE)), list(itertools.combinations("abcdef", 2)))
        self.assertEqual([echoes(LOT, "x"), echoes(LOT, "y")], [(1, ""), (1, "x")])
        self.assertEqual([echoes(MUD_LOT, "v"), echoes(MUD_LOT, "x")], [(2, ""), (1, "")])
        self.assertEqual([covers(LOT, "x", "y"), covers(LOT, "y", "x"), covers(LOT, "y", "y")], ["", "", None])
        self.assertEqual([idle(LOT), idle(Lot(PLAY.only("y"))), idle(Lot(CUBE))], ["", "y", ""])
        still = Lot(Play(HOUSE, b="none", a="look a: p", z="tell c: p / b: true"))
        self.assertEqual(idle(still), "abz")
        self.assertEqual([echoes(still, sign) for sign in "abz"], [(0, "")] * 3)
        self.assertEqual((covers(still, "a", "b"), free_pairs(still)), (None, [("a", "b"), ("a", "z"), ("b", "z")]))
        self.assertEqual((free_pairs(Lot(Play(HOUSE))), idle(Lot(Play(HOUSE)))), ([], ""))

    def test_the_first_name_letter_and_cases(self):
        # Only behind u does it matter for c and d who comes first.
        play = Play(random_house(source_of(121), 4, "pq", "abcd"), u="look a: p", v="tell a: p / b: true",
                    w="tell b: p / c: true / d: true")
        lot = Lot(play)
        tables = dict(lot.walk())
        self.assertEqual(order_clash(lot, "v", "w"), clash_by_words(play, tables, "v", "w"))
        self.assertEqual(order_clash(lot, "v", "w")[1:2], ("c",))

    def test_blunt_deeds(self):
        source = source_of(122)
        for _ in range(25):
            house = random_house(source, source.randint(2, 6))

            def blunt(turns=True):
                kind = source.choice(["none", "voice", "look", "turn"] if turns else ["none", "voice", "look"])
                told = random_plain(source, source.randint(1, 4))
                ears = {letter: random_plain(source, 2) for letter in "abc" if source.random() < 0.6}
                if kind == "none":
                    return Deed(**ears)
                if kind == "voice":
                    return Voice(told, **ears)
                if kind == "look":
                    return Look(source.choice("abc"), told, dim=random_plain(source, 2))
                return Turn(told, blunt(False), blunt(False))

            lot = Lot(Play(house, **{sign: blunt() for sign in "dgkt"}))
            self.assertEqual(free_pairs(lot), list(itertools.combinations("dgkt", 2)))
            for sign in "dgkt":
                self.assertLessEqual(echoes(lot, sign)[0], 1)
                for other in "dgkt":
                    self.assertIsNone(order_clash(lot, sign, other))
                    self.assertEqual(lot.least(sign + other + sign), lot.least(sign + other))


class Endings(Checks):
    def test_against_all_arrangements(self):
        lengths = []
        for source, lot, behind in short_lots(123, 40, 3, 6):
            names = first_names(behind)
            longest = max(len(row) for row in behind)
            for row in source.sample(list(behind), min(8, len(behind))) + [row for row in behind if len(row) == longest][:1]:
                wanted = endings_by_words(lambda one: behind[one], lambda table: names[table.key], row)
                self.assertEqual(endings(lot, row), wanted)
                lengths.append(len(wanted))
        self.assertGreater(max(lengths), 2)

    def test_eight_signs(self):
        lot = Lot(CUBE)
        self.assertEqual(endings(lot, "fedcbaaa"), [("aaabcdef", "abcdef")])
        self.assertEqual(endings(lot, ""), [("", "")])
        self.assertEqual(endings(lot, "ccacc"), [("acccc", "ac")])
        for row in ("vvvvxxxx", "xvxvxvxx", "xxxxxxxv", "vxxx"):
            self.assertEqual(endings(MUD_LOT, row), endings_by_words(MUD_LOT.after, MUD_LOT.name_of, row))
        self.assertEqual(endings(MUD_LOT, "xxv"), [("vxx", "vx"), ("xvx", "xv")])

    def test_eight_and_nine(self):
        lot = Lot(PLAY)
        self.assertEqual(endings(lot, "xxxxxxxy"), [("xxxxxxxy", "xy"), ("yxxxxxxx", "x")])
        self.assert_error(TooMany(8), endings, lot, "xxxxxxxxx")
        self.assert_error(TooMany(8), endings, lot, "xy" * 300)
        self.assert_errors_in_order(endings, {"lot": lot, "row": "xy"}, ({"row": "xyxyxyxyx"}, TooMany(8)))
        for row, sign, place in (("xyxyxyxyxz", "z", 9), ("xyxyxyxy-x", "-", 8), ("zxyxyxyxyxyz", "z", 0), ("xyX", "X", 2)):
            self.assert_error(UnknownDeed(sign, place), endings, lot, row)


class Errors(Checks):
    def test_signs(self):
        for sign in ("z", "", "xy", "X", "?", "yx"):
            for call in (order_clash, covers):
                self.assert_errors_in_order(call, {"lot": LOT, "first": "x", "second": "y"},
                                            ({"first": sign}, UnknownDeed(sign, 0)), ({"second": "q"}, UnknownDeed("q", 0)))
                self.assert_errors_in_order(call, {"lot": LOT, "first": "x", "second": "y"},
                                            ({"first": "w"}, UnknownDeed("w", 0)), ({"second": sign}, UnknownDeed(sign, 0)))
                self.assert_error(UnknownDeed(sign, 0), call, LOT, sign, sign)
            self.assert_error(UnknownDeed(sign, 0), echoes, LOT, sign)

    def test_fresh_lists(self):
        self.assert_fresh_list(free_pairs, Lot(CUBE))
        self.assert_fresh_list(endings, LOT, "yx")


if __name__ == "__main__":
    unittest.main()
