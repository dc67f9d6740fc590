import copy
import itertools
import unittest

from thinwall.alike import alike, alike_holds, alike_pairs, rounds, tables_alike
from thinwall.errors import UnlikeHouses
from thinwall.houses import House
from thinwall.splits import Split
from thinwall.tables import Table
from thinwall.truths import cases_of
from oracles import PAIR, ROAD, alike_by_words, is_alike_paper, lifted_table, random_table, some_tables
from support import HUGE, Checks, random_saying, source_of

class Rounds(Checks):
    def test_by_hand(self):
        self.assertEqual([str(split) for split in rounds(PAIR)], ["0,1|2,3"])
        self.assertEqual(alike(PAIR), Split([0, 0, 1, 1]))
        table = Table(PAIR.house, a=Split([0, 1, 1, 2]))
        self.assertEqual([str(split) for split in rounds(table)], ["0,1|2,3", "0|1|2|3"])

    def test_no_facts_and_one_case(self):
        self.assertEqual(rounds(Table(House([], [""] * 5, a=[0, 1, 2, 2, 0]))), [Split.whole(5)])
        self.assertEqual(rounds(Table(House(["p"], ["1"], a=[0]))), [Split.whole(1)])
        self.assertEqual(rounds(Table(House([], [""], a=[0], b=[0]))), [Split.whole(1)])

    def test_many_rounds(self):
        found = rounds(ROAD)
        self.assertEqual([len(split) for split in found], list(range(2, 13)))
        self.assertEqual(found[0], Split([0] * 11 + [1]))
        self.assertEqual(found[3], Split([0] * 8 + [1, 2, 3, 4]))
        self.assertEqual(alike(ROAD), Split.apart(12))

    def test_each_round_by_its_words(self):
        lengths = set()
        for _, table, _ in some_tables(30, 200):
            house, found = table.house, rounds(table)
            rows = house.rows()
            for one, other in itertools.product(range(house.size), repeat=2):
                self.assertIs(found[0].together(one, other), rows[one] == rows[other])
            for before, behind in itertools.pairwise(found):
                self.assertNotEqual(before, behind)
            for place, before in enumerate(found):
                met = {letter: [{before.marks()[other] for other in table.view(letter).cell(case)}
                                for case in range(house.size)] for letter in house.people}
                behind = found[min(place + 1, len(found) - 1)]
                for one, other in itertools.product(range(house.size), repeat=2):
                    self.assertIs(behind.together(one, other), before.together(one, other) and all(
                        met[letter][one] == met[letter][other] for letter in house.people))
            self.assertEqual(alike(table), found[-1])
            lengths.add(len(found))
        self.assertLessEqual({1, 2, 3}, lengths)

    def test_sayings_of_each_depth(self):
        source = source_of(31)
        for _ in range(150):
            table = random_table(source, source.randint(2, 8), "p", "ab")
            found = rounds(table)
            for _ in range(8):
                saying = random_saying(source, source.randint(1, 8), "p", "ab")
                truths = [case in cases_of(table, saying) for case in range(table.house.size)]
                split = found[-1] if "*" in str(saying) else found[min(saying.depth, len(found) - 1)]
                for cell in split.cells():
                    self.assertEqual(len({truths[case] for case in cell}), 1, (str(saying), str(table)))

    def test_the_table_counts_and_not_the_eyes(self):
        table = Table(PAIR.house, a=Split.apart(4), b=Split([0, 1, 2, 2]))
        self.assertEqual(str(alike(table)), "0,1|2,3")
        self.assertEqual(str(alike(Table(PAIR.house, b=Split([0, 1, 1, 1])))), "0|1|2,3")

    def test_nothing_is_changed(self):
        kept = copy.deepcopy(ROAD)
        self.assert_fresh_list(rounds, ROAD)
        self.assert_fresh_list(alike_pairs, ROAD, ROAD)
        self.assertEqual(ROAD, kept)


class AlikePairs(Checks):
    def test_two_tables_by_the_words_of_the_document(self):
        seen = set()
        for _, first, second in some_tables(32, 250):
            wanted = alike_by_words(first, second)
            self.assertEqual(alike_pairs(first, second), wanted)
            self.assertEqual(alike_pairs(second, first), sorted((b, a) for a, b in wanted))
            ours = {a for a, _ in wanted} == set(range(first.house.size))
            theirs = {b for _, b in wanted} == set(range(second.house.size))
            self.assertIs(tables_alike(first, second), ours and theirs)
            self.assertIs(tables_alike(second, first), ours and theirs)
            seen.add((ours, theirs))
        self.assertEqual(len(seen), 4)

    def test_a_table_with_itself(self):
        for _, table, _ in some_tables(33, 60):
            split = alike(table)
            self.assertEqual(alike_pairs(table, table), [
                (a, b) for a in range(table.house.size) for b in range(table.house.size) if split.together(a, b)])
            self.assertIs(tables_alike(table, table), True)

    def test_only_one_side_is_covered(self):
        both = Table(House(["p"], ["0", "1"], a=[0, 1]))
        one = Table(House(["p"], ["1"], a=[0]))
        self.assertEqual(alike_pairs(both, one), [(1, 0)])
        self.assertIs(tables_alike(both, one), False)
        self.assertIs(tables_alike(one, both), False)
        self.assertEqual(alike_pairs(one, Table(House(["p"], ["0"], a=[0]))), [])

    def test_what_is_told_of_a_pair_is_the_same(self):
        source = source_of(34)
        for _ in range(60):
            first = random_table(source, source.randint(1, 5), "p", "ab")
            second, copied = lifted_table(source, first, source.randint(first.house.size, 9))
            self.assertTrue(all((case, at) in alike_pairs(first, second) for at, case in enumerate(copied)))
            for _ in range(6):
                saying = random_saying(source, source.randint(1, 9), "p", "ab")
                truths = cases_of(first, saying)
                self.assertEqual(cases_of(second, saying), [at for at, case in enumerate(copied) if case in truths])


class AlikePapers(Checks):
    def test_papers_that_hold(self):
        for source, first, second in some_tables(35, 80):
            paper = alike_pairs(first, second)
            self.assertIs(alike_holds(first, second, []), True)
            for pairs in (paper, paper[::-1], paper + paper, source.sample(paper, len(paper))):
                self.assertIs(alike_holds(first, second, pairs), True)
            turned = [(b, a) for a, b in paper]
            self.assertIs(alike_holds(second, first, turned), True)

    def test_a_paper_need_not_contain_all(self):
        table = Table(House([], [""] * 3, a=[0, 1, 1]))
        self.assertEqual(len(alike_pairs(table, table)), 9)
        for pairs in ([(0, 0)], [(1, 2), (2, 1)], [(0, 1), (0, 2)], [(1, 0), (2, 0)], [(1, 1), (2, 2)]):
            self.assertIs(alike_holds(table, table, pairs), True)
        for pairs in ([(1, 2)], [(1, 1)], [(0, 1)], [(1, 0)], [(1, 1), (1, 2)], [(0, 0), (1, 1)]):
            self.assertIs(alike_holds(table, table, pairs), False)

    def test_spoilt_papers(self):
        found = []
        for source, first, second in some_tables(36, 150):
            paper = alike_pairs(first, second)
            sizes = first.house.size, second.house.size
            papers = [paper[:at] + paper[at + 1:] for at in range(len(paper))]
            papers += [paper[:at] + [(b, a)] + paper[at + 1:] for at, (a, b) in enumerate(paper[:9])]
            papers += [paper + [(source.randrange(sizes[0]), source.randrange(sizes[1]))] for _ in range(6)]
            papers += [source.sample(paper, source.randint(0, len(paper))) for _ in range(3)]
            for pairs in papers:
                wanted = is_alike_paper(first, second, pairs)
                self.assertIs(alike_holds(first, second, pairs), wanted)
                found.append(wanted)
        self.assertGreater(found.count(True), 100)
        self.assertGreater(found.count(False), 100)

    def test_equal_rows_of_facts_are_asked_for(self):
        first = Table(House(["p", "q"], ["01"], a=[0]))
        second = Table(House(["p", "q"], ["10"], a=[0]))
        self.assertIs(alike_holds(first, second, [(0, 0)]), False)
        self.assertIs(alike_holds(first, first, [(0, 0)]), True)

    def test_each_person_and_both_ways(self):
        one = Table(House(["p"], ["1", "0"], a=[0, 1], b=[0, 1]))
        for letter in "ab":
            other = Table(one.house, **{letter: Split.whole(2)})
            self.assertIs(alike_holds(one, other, [(0, 0), (1, 1)]), False)
            self.assertIs(alike_holds(other, one, [(0, 0), (1, 1)]), False)

    def test_integers_that_are_no_cases(self):
        paper = alike_pairs(PAIR, PAIR)
        for wrong in (-1, -4, 4, 12, HUGE, -HUGE):
            for pair in ((wrong, 0), (0, wrong), (wrong, wrong), (wrong, 3), (3, wrong)):
                self.assertIs(alike_holds(PAIR, PAIR, paper + [pair]), False)
                self.assertIs(alike_holds(PAIR, PAIR, [pair]), False)
                self.assertIs(alike_holds(PAIR, PAIR, [pair] + paper), False)
        small = Table(House(["p"], ["1"], a=[0], b=[0]))
        self.assertIs(alike_holds(PAIR, small, [(1, 1)]), False)
        self.assertIs(alike_holds(small, PAIR, [(1, 1)]), False)

    def test_nothing_is_changed(self):
        self.assert_leaves_arguments(alike_holds, PAIR, ROAD, [(0, 0), (1, 1), (1, 1)])


class UnlikeTables(Checks):
    def test_errors_in_their_order(self):
        table = Table(House(["p"], ["1"], a=[0], b=[0]))
        unlike = {"facts": [House(["q"], ["1"], a=[0], b=[0]), House([], [""], a=[0], b=[0]),
                            House(["p", "q"], ["11"], a=[0], b=[0]), House(["q"], ["1"], c=[0])],
                  "people": [House(["p"], ["1"], a=[0]), House(["p"], ["1"], a=[0], c=[0]),
                             House(["p"], ["1", "0"], a=[0, 0], b=[0, 0], c=[0, 0])]}
        calls = [alike_pairs, tables_alike] + [
            lambda first, second, pairs=pairs: alike_holds(first, second, pairs) for pairs in ([], [(0, 0)], [(-1, 9)])]
        for part, houses in unlike.items():
            for house in houses:
                for call in calls:
                    self.assert_error(UnlikeHouses(part), call, table, Table(house))
                    self.assert_error(UnlikeHouses(part), call, Table(house), table)

    def test_the_order_of_the_facts_counts(self):
        one = Table(House(["p", "q"], ["11"], a=[0]))
        other = Table(House(["q", "p"], ["11"], a=[0]))
        self.assert_error(UnlikeHouses("facts"), alike_pairs, one, other)


if __name__ == "__main__":
    unittest.main()
