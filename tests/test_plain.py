import itertools
import time
import unittest

from thinwall.errors import BadHouse, BadNotes, BadSize, UnknownPerson
from thinwall.houses import House
from thinwall.lots import Lot
from thinwall.notes import Find
from thinwall.plain import all_houses, rows_of, slow_fits, slow_names
from thinwall.plays import Play
from thinwall.splits import splits_of
from rows import CUBE, HOUSE, LOT, MUD, PLAY, ordered_names, short_lots, some_lots, tables_behind
from support import HUGE, Checks, source_of
from telling import rows_up_to
from test_notes import Heard, fits_entries, random_notes


class Rows(Checks):
    def test_against_products(self):
        for signs in ("", "x", "ba", "zyx", "aab", "cabcab"):
            for length in range(5):
                wanted = ["".join(row) for row in itertools.product(sorted(set(signs)), repeat=length)]
                self.assertEqual(list(rows_of(signs, length)), wanted)

    def test_signs_and_other_characters(self):
        for signs in ("ba", "ab", "abab", "b?a", "*ba-", "aB b A", " b\na", "b1a2", "\u00e9ba", "BabA{`"):
            self.assertEqual(list(rows_of(signs, 2)), ["aa", "ab", "ba", "bb"], signs)
        for signs in ("", "?*", "ABC", " ", "123", "{`"):
            self.assertEqual(list(rows_of(signs, 0)), [""])
            for length in (1, 2, 40):
                self.assertEqual(list(rows_of(signs, length)), [])

    def test_lengths(self):
        self.assertEqual(list(rows_of("xyz", 0)), [""])
        self.assertEqual(list(rows_of("q", 40)), ["q" * 40])
        self.assertEqual(list(rows_of("xyz", -1)), [])
        rows = rows_of("zyxwvutsrqponmlkjihgfedcba", 40)
        self.assertEqual([next(rows) for _ in range(27)][25:], ["a" * 39 + "z", "a" * 38 + "ba"])


class Names(Checks):
    def test_against_the_lot(self):
        for _, play, behind in some_lots(190, 40, 2, 6):
            self.assertEqual(slow_names(play, play.start.room), Lot(play).names())
            for length in range(4):
                wanted = [name for name in ordered_names(behind) if len(name) <= length]
                self.assertEqual(slow_names(play, length), wanted)

    def test_by_hand(self):
        self.assertEqual([slow_names(PLAY, length) for length in (0, 1, 2, 8)], [[""], ["", "x"], ["", "x", "xy"], ["", "x", "xy"]])
        self.assertEqual(slow_names(Play(HOUSE), 8), [""])
        self.assertEqual(slow_names(MUD, 8), ["", "v", "x", "vv", "vx", "xv"])
        self.assertEqual(slow_names(CUBE, 2), Lot(CUBE).names()[:22])
        self.assert_fresh_list(slow_names, PLAY, 2)


class Fits(Checks):
    def test_against_their_words_and_the_find(self):
        many = []
        for source, lot, _ in short_lots(191, 25, 2, 6):
            play = lot.play
            behind = tables_behind(play, 4)
            heard = Heard(play, behind)
            for _ in range(8):
                notes = random_notes(source, heard, play.signs, [row for row in behind if len(row) <= 3], 6)
                length = source.randint(0, 4)
                found = slow_fits(play, length, **notes)
                self.assertEqual(found, [
                    (row, case) for row in rows_up_to(play.signs, length) for case in range(play.house.size)
                    if all(fits_entries(entries, heard.deeds(row, letter, case)) for letter, entries in notes.items())])
                find = Find(lot, **notes)
                for case in range(play.house.size):
                    self.assertEqual([row for row, one in found if one == case],
                                     [row for one in range(length + 1) for row in find.fitting_rows(case, one)])
                many.append(min(len(found), 2))
        self.assertGreater(min(many.count(kind) for kind in range(3)), 5)

    def test_by_hand(self):
        self.assertEqual(slow_fits(PLAY, 3, c=[("*", "-"), ("y", "yes")]), [("xy", 1), ("xxy", 1)])
        self.assertEqual(slow_fits(PLAY, 1), [(row, case) for row in ("", "x", "y") for case in (0, 1)])
        self.assertEqual(slow_fits(PLAY, 6, b=[]), [("", 0), ("", 1)])
        self.assertEqual(slow_fits(PLAY, 0, b=[("?", "?")]), [])
        self.assertEqual(slow_fits(PLAY, 6, b=[("x", "no")] + [("?", "?")] * 5, c=[("x", "-"), ("*", "-"), ("x", "?")]), [("xxxxxx", 0)])
        self.assertEqual(len(slow_fits(PLAY, 6, c=[("*", "?")] * 8)), 2 * 127)

    def test_errors(self):
        good = {"play": PLAY, "length": 2, "b": [("x", "yes")], "c": []}
        for which in ("z", "", "xy", "X", "**"):
            self.assert_errors_in_order(slow_fits, good, ({"ab": [("z", "")]}, UnknownPerson("ab")), ({"d": []}, UnknownPerson("d")),
                                        ({"b": [("x", ""), (which, "yes")]}, BadNotes("b", 1)),
                                        ({"c": [("*", "-"), ("q", "")]}, BadNotes("c", 1)))
        notes = {"b": [("x", "yes")], "c": []}
        slow_fits(PLAY, 2, **notes)
        self.assertEqual(notes, {"b": [("x", "yes")], "c": []})
        self.assert_fresh_list(lambda: slow_fits(PLAY, 2))


def houses_by_words(facts, size, people):
    """All houses, in the order of point 72."""
    rows = ["".join(digits) for digits in itertools.product("01", repeat=len(facts))]
    for chosen in itertools.combinations_with_replacement(rows, size):
        for views in itertools.product(list(splits_of(size)), repeat=len(people)):
            yield House(facts, list(chosen), **{letter: view.marks() for letter, view in zip(people, views)})


class Houses(Checks):
    def test_against_products(self):
        for facts, size, people in ((["p"], 1, "a"), (["p"], 2, "ab"), (["p"], 3, "bh"), (["q", "p"], 2, "c"), ([], 3, "ac"),
                                    (["q", "p"], 3, "d"), ([], 1, "abcd"), (["p"], 2, "acgh"), (["a", "b", "c"], 2, "a")):
            found = list(all_houses(facts, size, people))
            wanted = list(houses_by_words(facts, size, people))
            self.assertEqual(len(found), len(wanted))
            for one, other in zip(found, wanted):
                self.assertEqual(one, other)
            self.assertEqual(found[0].facts(), facts)

    def test_one_after_the_other(self):
        begun = time.process_time()
        names = ["a", "b", "c", "d", "e", "f"]
        houses = all_houses(names, 12, "abcd")
        found = [next(houses) for _ in range(3)]
        self.assertEqual(found[0], House(names, ["000000"] * 12, a=[0] * 12, b=[0] * 12, c=[0] * 12, d=[0] * 12))
        self.assertEqual(found[2], House(names, ["000000"] * 12, a=[0] * 12, b=[0] * 12, c=[0] * 12, d=[0] * 10 + [1, 0]))
        self.assertLess(time.process_time() - begun, 5)

    def test_the_facts_are_copied(self):
        facts = ["p"]
        houses = all_houses(facts, 2, "a")
        found = [next(houses)]
        facts[0] = "TRUE"
        facts.append("q")
        found += list(houses)
        self.assertEqual(found, list(houses_by_words(["p"], 2, "a")))

    def test_errors_when_the_iteration_begins(self):
        good = {"facts": ["p"], "size": 2, "people": "ab"}

        def begun(**given):
            return next(all_houses(**given))

        for facts in (["p", "p"], ["P"], [""], list("abcdefg"), ["true"], ["ok", "abcdefghi"]):
            all_houses(facts, 99, "")
            for size in (0, 13, -1, HUGE, -HUGE):
                for people in ("", "ba", "aa", "abcde", "i", "a ", "A"):
                    self.assert_errors_in_order(begun, good, ({"facts": facts}, BadHouse("facts")), ({"size": size}, BadSize(size)),
                                                ({"people": people}, BadHouse("people")))


class NothingChanges(Checks):
    def test_the_plays(self):
        source = source_of(192)
        for _, play, _ in some_lots(193, 5, 2, 4):
            again = Play(play.house, **{sign: play.deed(sign) for sign in play.signs})
            slow_names(play, 3), slow_fits(play, 2, a=[("*", source.choice("-?"))])
            self.assertEqual(play, again)
        self.assertEqual(LOT.names(), ["", "x", "xy"])


if __name__ == "__main__":
    unittest.main()
