import copy
import unittest

from thinwall.errors import BadGroup, BadSaying, UnknownCase, UnknownFact, UnknownPerson
from thinwall.houses import House
from thinwall.reading import read_saying
from thinwall.sayings import Common, Fact, Knows, Whether, nested
from thinwall.splits import Split
from thinwall.tables import Table
from thinwall.truths import cases_of, doubt, holds, level, sure_facts
from oracles import random_table, true_in
from support import HUGE, Checks, random_group, random_saying, source_of

TABLE = Table(House(["p"], ["1", "1", "0"], a=[0, 0, 1], b=[0, 1, 1]))

# From the one end to the other each case is taken for the next one by one of two people.
ROAD = Table(House(["p"], ["1"] * 11 + ["0"], a=[case // 2 for case in range(12)],
                   b=[(case + 1) // 2 for case in range(12)], c=list(range(12))))


def some_questions(seed, many=250, size=12):
    source = source_of(seed)
    for _ in range(many):
        table = random_table(source, source.randint(1, 8))
        yield source, table, random_saying(source, source.randint(1, size))


class TheTruth(Checks):
    def test_each_kind_by_hand(self):
        known = {"true": [0, 1, 2], "false": [], "p": [0, 1], "~p": [2], "p & true": [0, 1], "p & ~p": [],
                 "p | false": [0, 1], "p | ~p": [0, 1, 2], "[a]p": [0, 1], "[b]p": [0], "[ab]p": [0], "[a?]p": [0, 1, 2],
                 "[b?]p": [0], "[ab?]p": [0], "[b?]~p": [0], "[a*]p": [0, 1], "[b*]p": [0], "[ab*]p": [],
                 "[ab*](p | ~p)": [0, 1, 2], "[a][b]p": [], "[b][a]p": [0], "~[b]p": [1, 2], "[a]~[b?]p": [2],
                 "[a?][b?]p": [2], "[b?][b?]p": [0, 1, 2]}
        for text, cases in known.items():
            self.assertEqual(cases_of(TABLE, text), cases, text)
            self.assertEqual(cases_of(TABLE, read_saying(text)), cases, text)

    def test_all_kinds_within_one_another(self):
        for _, table, saying in some_questions(18, 500):
            wanted = [case for case in range(table.house.size) if true_in(table, case, saying)]
            self.assertEqual(cases_of(table, saying), wanted)
            self.assertEqual(cases_of(table, str(saying)), wanted)

    def test_the_table_counts_and_not_the_eyes(self):
        table = Table(TABLE.house, b=Split.apart(3))
        self.assertEqual(cases_of(table, "[b]p"), [0, 1])
        self.assertEqual(cases_of(table, "[ab*]p"), [0, 1])

    def test_long_sayings(self):
        saying = Fact("p")
        for _ in range(300):
            saying = Knows("a", ~~saying)
        self.assertEqual(cases_of(TABLE, saying), [0, 1])

    def test_holds_none_one_and_several(self):
        for case in range(3):
            self.assertIs(holds(TABLE, case), True)
        self.assertIs(holds(TABLE, 0, "p"), True)
        self.assertIs(holds(TABLE, 0, "p", "[a]p", "[b]p"), True)
        self.assertIs(holds(TABLE, 1, "p", "[a]p", "[b]p"), False)
        self.assertIs(holds(TABLE, 1, "[b]p", "p"), False)
        for source, table, saying in some_questions(19):
            case = source.randrange(table.house.size)
            other = random_saying(source, 4)
            self.assertIs(holds(table, case, saying), bool(true_in(table, case, saying)))
            self.assertIs(holds(table, case, saying, str(other)),
                          bool(true_in(table, case, saying) and true_in(table, case, other)))

    def test_errors_of_cases_of(self):
        self.assert_error(BadSaying(2), cases_of, TABLE, "[az]p")
        self.assert_error(UnknownPerson("c"), cases_of, TABLE, "[ad]p & [c]x")
        self.assert_error(UnknownPerson("d"), cases_of, TABLE, "x | [d]p")
        self.assert_error(UnknownFact("q"), cases_of, TABLE, "[a]x & q & z")
        self.assert_error(UnknownFact("x"), cases_of, TABLE, Fact("x"))

    def test_errors_of_holds(self):
        self.assert_error(BadSaying(1), holds, TABLE, 9, "[c]x", "p)")
        self.assert_error(BadSaying(2), holds, TABLE, 9, "p q", "p)")
        for case in (-1, 3, HUGE, -HUGE):
            self.assert_error(UnknownCase(case), holds, TABLE, case)
            self.assert_error(UnknownCase(case), holds, TABLE, case, "[c]p", "x")
        self.assert_error(UnknownFact("x"), holds, TABLE, 0, "false", "p | x", "[c]p")
        self.assert_error(UnknownPerson("c"), holds, TABLE, 0, "false", "x & [c]p", "y")
        self.assert_error(UnknownFact("y"), holds, TABLE, 2, "false", "y")


class Doubts(Checks):
    def test_the_example(self):
        self.assertEqual([level(TABLE, 0, "ab", "p"), level(TABLE, 2, "ab", "p"), doubt(TABLE, 1, "ab", "p")],
                         [2, 0, ("b", 2)])

    def test_the_first_person_and_the_smallest_case(self):
        found = []
        for source, table, saying in some_questions(20):
            group, case = random_group(source, "abc"), source.randrange(table.house.size)
            wanted = [(letter, other) for letter in group for other in table.view(letter).cell(case)
                      if not true_in(table, other, saying)]
            answer = doubt(table, case, group, saying)
            self.assertEqual(answer, wanted[0] if wanted else None)
            self.assertEqual(answer is None, holds(table, case, Knows(group, saying)))
            found.append(len(wanted))
        self.assertIn(0, found)
        self.assertGreater(max(found), 4)


class Levels(Checks):
    def test_levels_by_their_words(self):
        seen = set()
        for source, table, saying in some_questions(21, 400, 5):
            group, case = random_group(source, "abc"), source.randrange(table.house.size)
            answer = level(table, case, group, saying)
            if answer is None:
                self.assertTrue(all(holds(table, case, nested(group, saying, count)) for count in range(13)))
            else:
                self.assertTrue(all(holds(table, case, nested(group, saying, count)) for count in range(answer)))
                self.assertFalse(holds(table, case, nested(group, saying, answer)))
            self.assertEqual(answer is None, holds(table, case, Common(group, saying)))
            seen.add(answer)
        self.assertLessEqual({None, 0, 1, 2, 3}, seen)

    def test_up_to_the_greatest_level(self):
        self.assertEqual([level(ROAD, case, "ab", "p") for case in range(12)], list(range(11, -1, -1)))
        self.assertEqual([level(ROAD, case, "ab", "true") for case in range(12)], [None] * 12)
        self.assertEqual([level(ROAD, case, "c", "p") for case in range(12)], [None] * 11 + [0])
        self.assertEqual([level(ROAD, case, "a", "p") for case in range(12)], [None] * 10 + [1, 0])


class SureFacts(Checks):
    def test_by_hand(self):
        house = House(["p", "q", "r"], ["010", "011", "110"], a=[0, 0, 0], b=[0, 0, 1], c=[0, 1, 0])
        table = Table(house)
        self.assertEqual(sure_facts(table, "a", 0), [("q", True)])
        self.assertEqual(sure_facts(table, "b", 1), [("p", False), ("q", True)])
        self.assertEqual(sure_facts(table, "bc", 1), [("p", False), ("q", True), ("r", True)])
        self.assertEqual(sure_facts(table, "b", 2), [("p", True), ("q", True), ("r", False)])
        self.assertEqual(sure_facts(Table(house, b=Split.whole(3)), "b", 2), [("q", True)])
        self.assertEqual(sure_facts(Table(House([], ["", ""], a=[0, 0])), "a", 1), [])
        self.assertIs(sure_facts(table, "b", 2)[0][1], True)
        self.assertIs(sure_facts(table, "b", 2)[2][1], False)

    def test_what_the_group_cannot_tell_apart_together(self):
        for source, table, _ in some_questions(22):
            group, case = random_group(source, "abc"), source.randrange(table.house.size)
            cell = [other for other in range(table.house.size)
                    if all(table.view(letter).together(case, other) for letter in group)]
            values = [(name, {table.house.fact_holds(other, name) for other in cell}) for name in table.house.facts()]
            self.assertEqual(sure_facts(table, group, case),
                             [(name, found.pop()) for name, found in values if len(found) == 1])

    def test_errors_in_their_order(self):
        self.assert_errors_in_order(
            lambda group, case: sure_facts(TABLE, group, case), {"group": "ab", "case": 0},
            ({"group": "ba"}, BadGroup("ba")), ({"case": 3}, UnknownCase(3)))
        self.assert_errors_in_order(
            lambda group, case: sure_facts(TABLE, group, case), {"group": "ab", "case": 0},
            ({"group": "acd"}, UnknownPerson("c")), ({"case": -1}, UnknownCase(-1)))
        self.assert_error(BadGroup("dca"), sure_facts, TABLE, "dca", 0)
        self.assert_error(UnknownCase(HUGE), sure_facts, TABLE, "a", HUGE)
        self.assert_fresh_list(sure_facts, TABLE, "a", 0)


class QuestionsAboutGroups(Checks):
    def test_errors_in_their_order(self):
        good = {"table": TABLE, "case": 0, "group": "ab", "saying": "p"}
        for call in (doubt, level):
            for group, wanted in (("ba", BadGroup("ba")), ("", BadGroup("")), ("dc", BadGroup("dc")),
                                  ("ace", UnknownPerson("c"))):
                for saying, error in (("[d]p", UnknownPerson("d")), ("x", UnknownFact("x")),
                                      ("x & [d]p", UnknownPerson("d"))):
                    for case in (3, -1, HUGE):
                        self.assert_errors_in_order(call, good, ({"group": group}, wanted), ({"saying": saying}, error),
                                                    ({"case": case}, UnknownCase(case)))
            for changes in ({"group": "ba"}, {"group": "ac"}, {"case": 3}, {"group": "", "case": -1}, {}):
                self.assert_error(BadSaying(0), call, **{**good, **changes, "saying": ""})

    def test_nothing_is_changed(self):
        table = copy.deepcopy(TABLE)
        for saying in ("[ab*]p", "[ab?]p & ~p"):
            cases_of(table, saying), holds(table, 0, saying), doubt(table, 0, "ab", saying)
            level(table, 0, "ab", saying), sure_facts(table, "ab", 0)
        self.assertEqual(table, TABLE)
        self.assertEqual(str(table), str(TABLE))
        self.assert_fresh_list(cases_of, TABLE, "p")
        self.assertEqual(cases_of(TABLE, Whether("b", Fact("p"))), [0])


if __name__ == "__main__":
    unittest.main()
