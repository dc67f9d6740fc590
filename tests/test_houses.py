import itertools
import unittest

from thinwall.errors import (BadHouse, BadSaying, NotPlain, TooMany, UnknownCase, UnknownFact, UnknownPerson,
                             UnlikeHouses)
from thinwall.houses import House, beside
from thinwall.sayings import Fact, Knows
from thinwall.splits import Split
from thinwall.tables import Table
from oracles import random_house, true_in
from support import HUGE, Checks, random_saying, source_of

NAMES = ["p", "q", "r", "s", "t", "u", "v"]


def small_house():
    return House(["p", "q"], ["10", "01", "10"], b=[4, 4, -4], a=[0, 1, 0])


class MakingHouses(Checks):
    def test_what_a_house_tells(self):
        house = small_house()
        self.assertEqual((house.size, len(house), house.people), (3, 3, "ab"))
        self.assertEqual((house.facts(), house.rows()), (["p", "q"], ["10", "01", "10"]))
        self.assertEqual((house.eyes("a").marks(), house.eyes("b").marks()), ([0, 1, 0], [0, 0, 2]))
        self.assertIsInstance(house.eyes("a"), Split)
        self.assertEqual([[house.fact_holds(case, name) for name in "pq"] for case in range(3)],
                         [[True, False], [False, True], [True, False]])

    def test_no_facts_and_six(self):
        house = House([], ["", ""], a=[0, 1])
        self.assertEqual((house.facts(), house.rows()), ([], ["", ""]))
        house = House(NAMES[:6], ["010101"], a=[0])
        self.assertEqual([house.fact_holds(0, name) for name in NAMES[:6]], [False, True] * 3)

    def test_one_case_and_twelve_one_person_and_four(self):
        self.assertEqual(House(["p"], ["1"], h=[HUGE]).size, 1)
        eyes = {letter: list(range(12)) for letter in "hdca"}
        house = House(["p"], ["1"] * 12, **eyes)
        self.assertEqual((house.size, house.people, len(house.eyes("h"))), (12, "acdh", 12))
        self.assertEqual(House(["p"], ["1", "0"], a=[-HUGE, HUGE]).eyes("a").marks(), [0, 1])

    def test_facts_that_no_house_has(self):
        for facts in (NAMES, ["true"], ["false"], ["P"], [""], ["abcdefghi"], ["p", "q", "p"], ["p1"], ["p", "p"]):
            self.assert_error(BadHouse("facts"), House, facts, ["1" * len(facts)], a=[0])
            self.assert_error(BadHouse("facts"), House.seen, facts, ["1" * len(facts)], a=[])
            self.assert_error(BadHouse("facts"), House.matching, facts, "true", a=[])

    def test_rows_that_no_house_has(self):
        for rows in ([], ["1"] * 13, ["1", "11"], ["1", ""], ["2"], ["x"], [" "], ["\u0661"], ["-"]):
            self.assert_error(BadHouse("rows"), House, ["p"], rows, a=[0] * len(rows))
            self.assert_error(BadHouse("rows"), House.seen, ["p"], rows, a=[])
        self.assert_error(BadHouse("rows"), House, [], ["", "1"], a=[0, 0])

    def test_people_that_no_house_has(self):
        for people in ([], list("abcde"), ["i"], ["A"], ["ab"], ["a", "z"], [""], ["people"], ["eyes"], ["saying"],
                       ["sees"], ["\u00e4"], ["a", "b", "c", "d", "i"], ["rowss"], ["aa"]):
            self.assert_error(BadHouse("people"), House, ["p"], ["1"], **{letter: [0] for letter in people})
            self.assert_error(BadHouse("people"), House.seen, ["p"], ["1"], **{letter: ["p"] for letter in people})
            if people != ["saying"]:
                self.assert_error(BadHouse("people"), House.matching, ["p"], "p",
                                  **{letter: ["p"] for letter in people})
        self.assert_error(BadHouse("people"), House.matching, ["p"], "p", rows=["p"])
        self.assert_error(BadHouse("people"), House.matching, ["p"], "p", rows=["p"], a=["x"])

    def test_eyes_that_no_house_has(self):
        for marks in ([], [0], [0, 1, 2], [0] * 13):
            self.assert_error(BadHouse("eyes"), House, ["p"], ["1", "0"], a=[0, 0], b=marks)
            self.assert_error(BadHouse("eyes"), House, ["p"], ["1", "0"], b=marks)

    def test_errors_in_their_order(self):
        self.assert_errors_in_order(
            House, {"facts": ["p"], "rows": ["1", "0"], "a": [0, 1]},
            ({"facts": ["p", "p"]}, BadHouse("facts")), ({"rows": ["1", "2"]}, BadHouse("rows")),
            ({"i": [0, 0]}, BadHouse("people")), ({"a": [0]}, BadHouse("eyes")))
        self.assert_error(BadHouse("rows"), House, ["p"], [], b=[0])
        self.assert_error(BadHouse("people"), House, ["p"], ["1"])

    def test_lists_are_copied(self):
        facts, rows, marks = ["p", "q"], ["10", "01"], [0, 0]
        house = self.assert_leaves_arguments(House, facts, rows, a=marks)
        facts[0], rows[0], marks[0] = "r", "11", 5
        rows.append("00")
        self.assertEqual((house.facts(), house.rows(), house.eyes("a").marks()), (["p", "q"], ["10", "01"], [0, 0]))
        self.assertEqual(house.size, 2)

    def test_lists_that_are_returned_are_new(self):
        house = small_house()
        self.assert_fresh_list(house.facts)
        self.assert_fresh_list(house.rows)
        self.assertEqual(house, small_house())


class AskingHouses(Checks):
    def test_unknown_people(self):
        for letter in ("c", "", "ab", "A", "z", "a ", "people"):
            self.assert_error(UnknownPerson(letter), small_house().eyes, letter)

    def test_unknown_cases_and_facts(self):
        for case in (-1, 3, HUGE, -HUGE):
            self.assert_error(UnknownCase(case), small_house().fact_holds, case, "p")
            self.assert_error(UnknownCase(case), small_house().fact_holds, case, "x")
        for name in ("r", "", "pq", "true", "P", "abcdefghi"):
            self.assert_error(UnknownFact(name), small_house().fact_holds, 0, name)

    def test_equal_houses(self):
        self.assertTrue(small_house() == House(["p", "q"], ["10", "01", "10"], a=[7, 8, 7], b=[1, 1, 2]))
        self.assertFalse(small_house() != House(["p", "q"], ["10", "01", "10"], a=[7, 8, 7], b=[1, 1, 2]))
        different = [
            small_house(), House(["p", "r"], ["10", "01", "10"], a=[0, 1, 0], b=[0, 0, 1]),
            House(["q", "p"], ["10", "01", "10"], a=[0, 1, 0], b=[0, 0, 1]),
            House(["p", "q"], ["01", "10", "10"], a=[0, 1, 0], b=[0, 0, 1]),
            House(["p", "q"], ["10", "01", "10"], a=[0, 1, 0], b=[0, 1, 1]),
            House(["p", "q"], ["10", "01", "10"], a=[0, 1, 0], c=[0, 0, 1]),
            House(["p", "q"], ["10", "01", "10"], a=[0, 1, 0]),
            House(["p", "q"], ["10", "01", "10"], a=[0, 1, 0], b=[0, 0, 1], c=[0, 0, 0]),
            House(["p", "q"], ["10", "01"], a=[0, 1], b=[0, 0]), House([], [""] * 3, a=[0, 1, 0], b=[0, 0, 1])]
        for one, other in itertools.product(different, different):
            self.assertIs(one == other, one is other)
            self.assertIs(one != other, one is not other)

    def test_a_house_is_like_no_other_thing(self):
        self.assert_unlike_other_things(small_house())
        self.assertFalse(small_house() == Table(small_house()))
        self.assertTrue(small_house() != Split([0, 1, 0]))


class HousesOfThoseWhoSee(Checks):
    def test_two_cases_that_agree_on_all_that_is_seen(self):
        rows = ["00", "01", "10", "11", "01"]
        house = House.seen(["p", "q"], rows, d=["q"], a=["p", "q"], c=[], b=["q", "p", "q", "q"])
        marks = [house.eyes(letter).marks() for letter in "abcd"]
        self.assertEqual(marks, [[0, 1, 2, 3, 1], [0, 1, 2, 3, 1], [0] * 5, [0, 1, 0, 1, 1]])
        self.assertEqual((house.rows(), house.people), (rows, "abcd"))

    def test_strings_that_are_no_facts(self):
        for name in ("r", "", "P", "true", "pq"):
            self.assert_error(UnknownFact(name), House.seen, ["p"], ["1"], a=["p", name])
        self.assert_error(UnknownFact("y"), House.seen, ["p"], ["1"], c=["x"], b=["p", "y", "z"], a=["p"])

    def test_errors_in_their_order(self):
        self.assert_errors_in_order(
            House.seen, {"facts": ["p"], "rows": ["1"], "a": ["p"]},
            ({"facts": ["p", "p"]}, BadHouse("facts")), ({"rows": ["2"]}, BadHouse("rows")),
            ({"i": ["p"]}, BadHouse("people")), ({"a": ["x"]}, UnknownFact("x")))

    def test_arguments_stay_as_they_are(self):
        self.assert_leaves_arguments(House.seen, ["p", "q"], ["10", "01"], a=["q", "q"], b=[])
        self.assert_leaves_arguments(House.matching, ["p", "q"], "p | q", a=["q", "q"], b=[])


class HousesOfASaying(Checks):
    def test_the_example(self):
        house = House.matching(["p", "q"], "p | q", a=["q"], b=["p"])
        self.assertEqual([house.rows(), house.eyes("a").marks(), house.eyes("b").marks()],
                         [["01", "10", "11"], [0, 1, 0], [0, 1, 1]])

    def test_all_rows_in_which_the_saying_is_true(self):
        source = source_of(13)
        whole = House.seen(["p", "q", "r"], ["000", "001", "010", "011", "100", "101", "110", "111"], a=[])
        for _ in range(150):
            saying = random_saying(source, source.randint(1, 10))
            if not saying.plain:
                continue
            wanted = [whole.rows()[case] for case in range(8) if true_in(Table(whole), case, saying)]
            if not wanted:
                self.assert_error(BadHouse("rows"), House.matching, ["p", "q", "r"], saying, a=["p"])
                continue
            house = House.matching(["p", "q", "r"], saying, a=["p"], b=["q", "r"])
            self.assertEqual(house, House.seen(["p", "q", "r"], wanted, a=["p"], b=["q", "r"]))
            self.assertEqual(House.matching(["p", "q", "r"], str(saying), a=["p"], b=["r", "q"]), house)

    def test_no_facts(self):
        self.assertEqual(House.matching([], "true", a=[]), House([], [""], a=[0]))
        self.assert_error(BadHouse("rows"), House.matching, [], "false", a=[])

    def test_twelve_rows_and_more(self):
        four = NAMES[:4]
        self.assertEqual(House.matching(four, "p | q", a=[]).size, 12)
        self.assert_error(TooMany(12), House.matching, four, "p | q | r & s", a=[])
        self.assert_error(TooMany(12), House.matching, NAMES[:6], "true", a=[])
        self.assertEqual(House.matching(NAMES[:6], "p & q & r & (s | t | u)", a=[]).size, 7)

    def test_errors_in_their_order(self):
        four = NAMES[:4]
        text = "p & [b"
        self.assert_error(BadSaying(6), House.matching, ["p"], text, a=["p"])
        self.assert_error(BadSaying(6), House.matching, ["p", "p"], text, i=["x"])
        self.assert_error(BadHouse("facts"), House.matching, ["P"], "[a]p & x", a=["p"])
        self.assert_error(BadHouse("facts"), House.matching, ["P"], "x", a=["p"])
        self.assert_error(BadHouse("facts"), House.matching, NAMES, "true", i=["x"])
        self.assert_error(NotPlain("p & [a]x"), House.matching, ["p"], " p&[a](x)", a=["p"])
        self.assert_error(NotPlain("[a]p"), House.matching, ["p"], Knows("a", Fact("p")), i=["x"])
        self.assert_error(NotPlain("[a]p | true"), House.matching, four, "[a]p | true", i=["x"])
        self.assert_error(UnknownFact("b"), House.matching, four, "x | b | p | d", a=["y"])
        self.assert_error(UnknownFact("x"), House.matching, four, "true | x", i=["y"])
        self.assert_error(TooMany(12), House.matching, four, "true", i=["x"])
        self.assert_error(TooMany(12), House.matching, four, "true", a=["x"])
        self.assert_error(BadHouse("rows"), House.matching, four, "false", i=["x"])
        self.assert_error(BadHouse("people"), House.matching, four, "p & q", i=["x"])
        self.assert_error(UnknownFact("x"), House.matching, four, "p & q", a=["p"], b=["x"])


class OtherHouses(Checks):
    def test_kept(self):
        house = House(["p"], ["0", "1", "1", "0"], a=[0, 0, 1, 1], b=[0, 1, 2, 0])
        self.assertEqual(house.kept([3, 1, 0]), House(["p"], ["0", "1", "0"], a=[1, 0, 0], b=[0, 1, 0]))
        self.assertEqual(house.kept([0, 1, 2, 3]), house)
        self.assertEqual(house.kept([2]), House(["p"], ["1"], a=[0], b=[0]))
        source = source_of(14)
        for _ in range(50):
            house = random_house(source, source.randint(1, 12))
            cases = source.sample(range(house.size), source.randint(1, house.size))
            kept = house.kept(cases)
            self.assertEqual(kept.rows(), [house.rows()[case] for case in cases])
            for letter in house.people:
                for one, other in itertools.product(range(len(cases)), repeat=2):
                    self.assertIs(kept.eyes(letter).together(one, other),
                                  house.eyes(letter).together(cases[one], cases[other]))

    def test_cases_that_cannot_be_kept(self):
        house = small_house()
        self.assert_error(BadHouse("rows"), house.kept, [])
        for case in (-1, 3, HUGE, -HUGE):
            self.assert_error(UnknownCase(case), house.kept, [0, case])
            self.assert_error(UnknownCase(case), house.kept, [case, 0, 0])
            self.assert_error(UnknownCase(0), house.kept, [0, 1, 0, case])
        self.assert_error(UnknownCase(1), house.kept, [0, 1, 1, 0])
        self.assert_error(UnknownCase(2), house.kept, [2, 0, 1, 2, 0])
        self.assert_leaves_arguments(house.kept, [2, 0])
        self.assertEqual(house, small_house())

    def test_beside(self):
        one = House(["p"], ["0", "1"], a=[0, 0], b=[0, 1])
        other = House(["p"], ["1", "0", "1"], b=[0, 1, 0], a=[0, 0, 1])
        self.assertEqual(beside(one, other), House(["p"], ["0", "1", "1", "0", "1"], a=[0, 0, 2, 2, 4], b=[0, 1, 2, 3, 2]))
        self.assertEqual(beside(one, one).eyes("a").cells(), [[0, 1], [2, 3]])
        six = House(["p"], ["1"] * 6, a=[0] * 6)
        self.assertEqual(beside(six, six).size, 12)

    def test_houses_that_cannot_stand_beside_each_other(self):
        one = House(["p", "q"], ["11"] * 6, a=[0] * 6)
        longer = House(["p", "q"], ["11"] * 7, a=[0] * 7)
        turned = House(["q", "p"], ["11"] * 6, a=[0] * 6)
        people = House(["p", "q"], ["11"] * 6, b=[0] * 6)
        self.assert_error(UnlikeHouses("facts"), beside, one, turned)
        self.assert_error(UnlikeHouses("people"), beside, one, people)
        self.assert_error(TooMany(12), beside, one, longer)
        self.assert_error(UnlikeHouses("facts"), beside, House(["p", "q"], ["11"], b=[0]), turned)
        self.assert_error(UnlikeHouses("facts"), beside, turned, longer)
        self.assert_error(UnlikeHouses("people"), beside, longer, people)


if __name__ == "__main__":
    unittest.main()
