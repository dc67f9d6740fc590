import copy
import itertools
import unittest

from thinwall.alike import alike, alike_pairs, tables_alike
from thinwall.errors import UnlikeHouses
from thinwall.houses import House
from thinwall.leasts import least, least_holds, same_form
from thinwall.splits import Split
from thinwall.tables import Table
from oracles import PAIR, ROAD, is_least_form, lifted_table, some_tables
from support import HUGE, Checks, source_of


def renumbered(house, onto, order):
    """The same least form with its cases in another order: place i has the case order[i]."""
    return house.kept(order), [order.index(case) for case in onto]


class LeastForms(Checks):
    def test_by_hand(self):
        house, onto = least(PAIR)
        self.assertEqual(onto, [0, 0, 1, 1])
        self.assertEqual(house, House(["p"], ["1", "0"], a=[0, 1], b=[0, 0]))
        table = Table(House(["p"], ["0", "1", "0", "1"], a=[0, 1, 0, 1], b=[0, 0, 0, 0]))
        self.assertEqual(least(table), (House(["p"], ["0", "1"], a=[0, 1], b=[0, 0]), [0, 1, 0, 1]))
        house, onto = least(Table(House([], ["", "", ""], a=[0, 1, 1], h=[0, 0, 1])))
        self.assertEqual((house, onto), (House([], [""], a=[0], h=[0]), [0, 0, 0]))

    def test_a_least_form_is_its_own_least_form(self):
        house, onto = least(ROAD)
        self.assertEqual((house, onto), (ROAD.house, list(range(12))))

    def test_the_order_of_the_cells_and_each_part_by_its_words(self):
        smaller = 0
        for _, table, other in some_tables(40, 150):
            for one in (table, other):
                house, onto = least(one)
                cells = alike(one).cells()
                self.assertEqual(onto, [[case in cell for cell in cells].index(True) for case in range(one.house.size)])
                self.assertEqual(house.facts(), one.house.facts())
                self.assertEqual(house.people, one.house.people)
                self.assertEqual(house.rows(), [one.house.rows()[cell[0]] for cell in cells])
                for letter in house.people:
                    for (x, ours), (y, theirs) in itertools.product(enumerate(cells), repeat=2):
                        self.assertIs(house.eyes(letter).together(x, y), any(
                            one.view(letter).together(a, b) for a in ours for b in theirs))
                self.assertIs(least_holds(one, house, onto), True)
                self.assertTrue(tables_alike(one, Table(house)))
                smaller += house.size < one.house.size
        self.assertGreater(smaller, 60)

    def test_the_table_counts_and_not_the_eyes(self):
        table = Table(PAIR.house, b=Split([0, 1, 1, 1]))
        house, onto = least(table)
        self.assertEqual((house.rows(), onto), (["1", "1", "0"], [0, 1, 2, 2]))
        self.assertEqual([str(house.eyes(letter)) for letter in "ab"], ["0,1|2", "0|1,2"])

    def test_kinds_of_values_and_nothing_changed(self):
        kept = copy.deepcopy(PAIR)
        found = least(PAIR)
        self.assertIsInstance(found, tuple)
        self.assertIsInstance(found[1], list)
        found[1].append(7)
        self.assertEqual(least(PAIR)[1], [0, 0, 1, 1])
        self.assertEqual(PAIR, kept)


class LeastPapers(Checks):
    def test_any_order_of_the_cases(self):
        for source, table, _ in some_tables(41, 60):
            house, onto = least(table)
            order = source.sample(range(house.size), house.size)
            self.assertIs(least_holds(table, *renumbered(house, onto, order)), True)

    def test_spoilt_maps_by_the_words_of_the_document(self):
        found = []
        for source, table, other in some_tables(42, 150):
            house, onto = least(table)
            maps = [onto[:at] + [source.randrange(house.size)] + onto[at + 1:] for at in range(len(onto))]
            maps += [onto[:-1], onto + [0], [], onto[::-1]]
            for wrong in (-1, house.size, HUGE, -HUGE):
                maps += [onto[:at] + [wrong] + onto[at + 1:] for at in range(len(onto))]
            for one in maps:
                wanted = is_least_form(table, house, one)
                self.assertIs(least_holds(table, house, one), wanted)
                found.append(wanted)
            # Another house, and the table itself, which may have cases that are alike.
            for one, form in ((table, other.house), (other, house)):
                tried = [source.randrange(form.size) for _ in range(one.house.size)]
                self.assertIs(least_holds(one, form, tried), is_least_form(one, form, tried))
            own = House(house.facts(), table.house.rows(), **{x: table.view(x).marks() for x in house.people})
            same = list(range(own.size))
            self.assertIs(least_holds(table, own, same), own.size == house.size)
        self.assertIn(True, found)
        self.assertGreater(found.count(False), 200)

    def test_a_case_that_does_not_occur(self):
        house, onto = least(PAIR)
        more = House(["p"], ["1", "0", "1"], a=[0, 1, 2], b=[0, 0, 1])
        self.assertIs(least_holds(PAIR, more, onto), False)
        self.assertIs(least_holds(PAIR, House(["p"], ["1"], a=[0], b=[0]), [0] * 4), False)
        self.assertIs(least_holds(PAIR, house, [1, 1, 0, 0]), False)

    def test_cases_of_the_form_that_are_alike(self):
        table = Table(House([], [""] * 2, a=[0, 1]))
        self.assertIs(least_holds(table, House([], [""], a=[0]), [0, 0]), True)
        self.assertIs(least_holds(table, table.house, [0, 1]), False)

    def test_other_facts_people_and_eyes(self):
        house, onto = least(PAIR)
        self.assertIs(least_holds(PAIR, house, onto), True)
        for other in (House(["q"], ["1", "0"], a=[0, 1], b=[0, 0]), House(["p"], ["1", "0"], a=[0, 1]),
                      House(["p"], ["1", "0"], a=[0, 1], c=[0, 0]), House([], ["", ""], a=[0, 1], b=[0, 0]),
                      House(["p"], ["1", "0"], a=[0, 1], b=[0, 0], c=[0, 0]),
                      House(["p"], ["0", "1"], a=[0, 1], b=[0, 0]), House(["p"], ["1", "0"], a=[0, 0], b=[0, 0]),
                      House(["p"], ["1", "0"], a=[0, 1], b=[0, 1])):
            self.assertIs(least_holds(PAIR, other, onto), False)

    def test_nothing_is_changed(self):
        house, onto = least(PAIR)
        self.assert_leaves_arguments(least_holds, PAIR, house, onto)


class SameForms(Checks):
    def test_by_hand(self):
        other = Table(House(["p"], ["0", "1"], a=[0, 1], b=[0, 0]))
        self.assertEqual(same_form(PAIR, other), [1, 0])
        self.assertEqual(same_form(other, PAIR), [1, 0])
        self.assertEqual(same_form(PAIR, PAIR), [0, 1])
        self.assertIsNone(same_form(PAIR, ROAD))
        self.assertIsNone(same_form(PAIR, Table(House(["p"], ["1"], a=[0], b=[0]))))

    def test_alike_exactly_if_the_least_forms_are_the_same(self):
        source = source_of(43)
        found = []
        for _, first, second in some_tables(44, 150):
            answer = same_form(first, second)
            self.assertEqual(answer is None, not tables_alike(first, second))
            found.append(answer is None)
            if answer is None:
                continue
            (ours, one), (theirs, other) = least(first), least(second)
            self.assertEqual(sorted(answer), list(range(theirs.size)))
            for a, b in alike_pairs(first, second):
                self.assertEqual(answer[one[a]], other[b])
            # Up to the order of the cases the two forms are the same house.
            self.assertEqual(theirs.kept(answer), ours)
        self.assertGreater(found.count(False), 40)
        self.assertGreater(found.count(True), 40)
        table, _ = lifted_table(source, ROAD, 12)
        self.assertEqual(sorted(same_form(ROAD, table)), list(range(12)))
        self.assertNotEqual(same_form(ROAD, table), list(range(12)))
        self.assert_fresh_list(same_form, PAIR, PAIR)

    def test_errors_in_their_order(self):
        table = Table(House(["p"], ["1"], a=[0], b=[0]))
        for part, house in (("facts", House(["q"], ["1"], a=[0], b=[0])), ("facts", House(["q"], ["1"], a=[0])),
                            ("people", House(["p"], ["1"], a=[0])), ("people", House(["p"], ["0"], c=[0], b=[0]))):
            self.assert_error(UnlikeHouses(part), same_form, table, Table(house))
            self.assert_error(UnlikeHouses(part), same_form, Table(house), table)


if __name__ == "__main__":
    unittest.main()
