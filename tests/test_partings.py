import copy
import unittest
from unittest import mock

from thinwall import partings
from thinwall.alike import alike_pairs
from thinwall.errors import TooMany, UnknownCase, UnlikeHouses
from thinwall.houses import House
from thinwall.partings import MOST_PARTS, find_parting, parting_holds, parting_saying
from thinwall.sayings import And, Fact, Knows, Not, Or
from thinwall.tables import Table
from thinwall.truths import cases_of
from oracles import PAIR, ROAD, is_parting, parting_by_words, ranks_by_words, some_tables
from support import HUGE, Checks, source_of

TABLE = Table(House(["p"], ["1", "1", "0"], a=[0, 1, 1], b=[0, 0, 0]))


# Two tables each, and cases of them for which the saying has about 100, 170, and 280 parts.
LONG = [
    (["011111111111", [0, 1, 2, 2, 2, 5, 6, 6, 5, 1, 1, 5], [0, 1, 2, 0, 1, 5, 6, 5, 5, 1, 6, 0]],
     ["111111111110", [0, 1, 2, 0, 1, 2, 6, 0, 6, 1, 6, 11], [0, 1, 2, 3, 3, 0, 0, 7, 2, 1, 1, 2]], 6, 3),
    (["111111011111", [0, 1, 1, 3, 0, 5, 3, 5, 0, 9, 9, 11], [0, 0, 2, 2, 0, 5, 6, 7, 5, 5, 7, 11]],
     ["110111111111", [0, 1, 0, 3, 4, 1, 6, 3, 6, 9, 10, 10], [0, 1, 2, 3, 0, 5, 0, 5, 1, 2, 5, 1]], 7, 3),
    (["111111011111", [11, 1, 1, 11, 3, 6, 2, 4, 2, 4, 8, 3], [3, 6, 10, 6, 4, 8, 0, 8, 10, 6, 2, 3]],
     ["110111111111", [4, 1, 11, 10, 11, 1, 6, 6, 4, 3, 4, 10], [2, 1, 4, 5, 3, 5, 5, 3, 1, 9, 7, 2]], 4, 10),
]


def long_cases():
    for first, second, a, b in LONG:
        yield made_table(*first), a, made_table(*second), b


def made_table(rows, one, other):
    return Table(House(["p"], list(rows), a=one, b=other))


def some_cases(seed, many):
    for source, first, second in some_tables(seed, many):
        yield source, first, source.randrange(first.house.size), second, source.randrange(second.house.size)


def deep_cases(seed, many):
    """Cases of tables in which p is false in one case only, so that partings have several ranks."""
    source = source_of(seed)
    for _ in range(many):
        size = source.randint(6, 12)
        made = [made_table("1" * at + "0" + "1" * (size - at - 1), *[[source.randrange(5) for _ in range(size)] for _ in "ab"])
                for at in (source.randrange(size), source.randrange(size))]
        for one, other in ((0, 0), (0, 1), (1, 0)):
            yield source, made[one], source.randrange(size), made[other], source.randrange(size)


def saying_by_words(first, second, paper, a, b):
    """The saying of point 34, without any bound."""
    rank, _, _, word, side, chosen = [entry for entry in paper if entry[1:3] == (a, b)][0]
    if rank == 0:
        return Fact(word) if side == 0 else Not(Fact(word))
    kind = And if side == 0 else Or
    mates = second.view(word).cell(b) if side == 0 else first.view(word).cell(a)
    below = [saying_by_words(first, second, paper, *((chosen, mate) if side == 0 else (mate, chosen))) for mate in mates]
    joined = below[0]
    for at, saying in enumerate(below):
        if saying not in below[:at] and at:
            joined = kind(joined, saying)
    return Not(Knows(word, Not(joined))) if side == 0 else Knows(word, joined)


class FindPartings(Checks):
    def test_the_example(self):
        self.assertEqual([find_parting(TABLE, 0, TABLE, 1), str(parting_saying(TABLE, 0, TABLE, 1))],
                         [[(0, 0, 2, "p", 0, -1), (1, 0, 1, "a", 1, 2)], "[a]p"])

    def test_rank_0_with_both_sides_and_the_first_fact(self):
        house = House(["q", "p"], ["01", "10", "11"], a=[0, 0, 0])
        table = Table(house)
        self.assertEqual(find_parting(table, 0, table, 1), [(0, 0, 1, "q", 1, -1)])
        self.assertEqual(find_parting(table, 1, table, 0), [(0, 1, 0, "q", 0, -1)])
        self.assertEqual(find_parting(table, 1, table, 2), [(0, 1, 2, "p", 1, -1)])

    def test_greater_ranks_with_both_sides(self):
        self.assertEqual(find_parting(TABLE, 1, TABLE, 0), [(0, 2, 0, "p", 1, -1), (1, 1, 0, "a", 0, 2)])
        found = find_parting(ROAD, 0, ROAD, 1)
        self.assertEqual(found[-1][0], 10)
        self.assertEqual([find_parting(ROAD, 0, ROAD, case)[-1][0] for case in range(1, 12)], list(range(10, -1, -1)))

    def test_alike_cases(self):
        self.assertIsNone(find_parting(PAIR, 0, PAIR, 1))
        self.assertIsNone(find_parting(PAIR, 2, PAIR, 2))
        self.assertIsNone(parting_saying(PAIR, 3, PAIR, 2))
        self.assertIsNone(parting_saying(PAIR, 3, PAIR, 2, most=0))

    def test_by_the_words_of_the_document(self):
        ranks, sides, longest = set(), set(), 0
        for cases in (some_cases(50, 200), deep_cases(51, 40)):
            for _, first, a, second, b in cases:
                wanted = parting_by_words(first, a, second, b)
                found = find_parting(first, a, second, b)
                self.assertEqual(found, wanted)
                self.assertEqual(found is None, (a, b) in alike_pairs(first, second))
                for entry in found or []:
                    ranks.add(entry[0])
                    sides.add((entry[0] > 0, entry[4]))
                longest = max(longest, len(found or []))
        self.assertLessEqual({0, 1, 2, 3}, ranks)
        self.assertEqual(len(sides), 4)
        self.assertGreater(longest, 15)

    def test_nothing_is_changed(self):
        kept = copy.deepcopy(ROAD)
        self.assert_fresh_list(find_parting, ROAD, 0, ROAD, 5)
        parting_saying(ROAD, 0, ROAD, 9)
        self.assertEqual(ROAD, kept)


class PartingPapers(Checks):
    def test_found_papers_hold_in_any_order(self):
        for source, first, a, second, b in deep_cases(52, 40):
            paper = find_parting(first, a, second, b)
            if paper is None:
                self.assertIs(parting_holds(first, a, second, b, []), False)
                continue
            for one in (paper, paper[::-1], source.sample(paper, len(paper))):
                self.assertIs(parting_holds(first, a, second, b, one), True)

    def test_entries_left_out_doubled_or_of_another_pair(self):
        for source, first, a, second, b in deep_cases(53, 30):
            paper = find_parting(first, a, second, b) or []
            for at, entry in enumerate(paper):
                self.assertIs(parting_holds(first, a, second, b, paper[:at] + paper[at + 1:]), False)
                self.assertIs(parting_holds(first, a, second, b, paper + [entry]), False)
                self.assertIs(parting_holds(first, a, second, b, [(entry[0] + 1,) + entry[1:]] + paper), False)
            for one in range(first.house.size):
                for other in range(second.house.size):
                    wanted = is_parting(first, one, second, other, paper)
                    self.assertEqual(wanted, (one, other) in [entry[1:3] for entry in paper])
                    self.assertIs(parting_holds(first, one, second, other, paper), wanted)

    def test_each_place_changed(self):
        found = []
        for source, first, a, second, b in deep_cases(54, 25):
            paper = find_parting(first, a, second, b) or []
            numbers = (-HUGE, -2, -1, 0, 1, 2, 3, 8, 12, HUGE)
            words = ("p", "q", "a", "b", "c", "", "ab", "true")
            for at, entry in enumerate(paper):
                for place in range(6):
                    for value in words if place == 3 else numbers:
                        one = paper[:at] + [entry[:place] + (value,) + entry[place + 1:]] + paper[at + 1:]
                        wanted = is_parting(first, a, second, b, one)
                        self.assertIs(parting_holds(first, a, second, b, one), wanted, one)
                        found.append((place, wanted))
        for place in range(6):
            self.assertIn((place, False), found)
        for place in (0, 3, 4, 5):
            self.assertIn((place, True), found)

    def test_ranks_need_not_be_the_smallest_ones(self):
        paper = find_parting(ROAD, 0, ROAD, 3)
        raised = [entry if entry[0] == 0 else (entry[0] * 7 + 3,) + entry[1:] for entry in paper]
        self.assertIs(parting_holds(ROAD, 0, ROAD, 3, raised), True)
        for rank in (0, -1):
            lowered = [entry if entry[0] == 0 else (rank,) + entry[1:] for entry in paper]
            self.assertIs(parting_holds(ROAD, 0, ROAD, 3, lowered), False)
        same = [entry if entry[0] == 0 else (5,) + entry[1:] for entry in paper]
        self.assertIs(parting_holds(ROAD, 0, ROAD, 3, same), False)
        raised_facts = [(1,) + entry[1:] if entry[0] == 0 else entry for entry in paper]
        self.assertIs(parting_holds(ROAD, 0, ROAD, 3, raised_facts), False)

    def test_more_entries_that_are_right_do_no_harm(self):
        paper = find_parting(TABLE, 0, TABLE, 1)
        self.assertIs(parting_holds(TABLE, 0, TABLE, 1, paper + [(0, 2, 0, "p", 1, -1)]), True)
        self.assertIs(parting_holds(TABLE, 0, TABLE, 1, paper + [(0, 2, 0, "p", 0, -1)]), False)
        self.assertIs(parting_holds(TABLE, 0, TABLE, 1, paper + [(0, 1, 0, "p", 0, -1)]), False)

    def test_no_paper_parts_alike_cases(self):
        for paper in ([], [(0, 0, 1, "p", 0, -1)], [(1, 0, 1, "a", 0, 0)], [(1, 0, 1, "b", 1, 1)]):
            self.assertIs(parting_holds(PAIR, 0, PAIR, 1, paper), False)

    def test_nothing_is_changed(self):
        self.assert_leaves_arguments(parting_holds, TABLE, 0, TABLE, 1, find_parting(TABLE, 0, TABLE, 1))


class PartingSayings(Checks):
    def test_by_hand(self):
        self.assertEqual(MOST_PARTS, 60)
        self.assertEqual(str(parting_saying(TABLE, 0, TABLE, 2)), "p")
        self.assertEqual(str(parting_saying(TABLE, 2, TABLE, 0)), "~p")
        self.assertEqual(str(parting_saying(TABLE, 1, TABLE, 0)), "~[a]~~p")
        self.assertEqual(str(parting_saying(ROAD, 0, ROAD, 9)), "[b][a]p")

    def test_several_sayings_in_one_and_equal_ones_left_out(self):
        one = Table(House(["p", "q"], ["00", "11"], a=[0, 0]))
        other = Table(House(["p", "q"], ["00", "10", "01", "10"], a=[0, 0, 0, 0]))
        # The sayings for the four cases of the other table are p, q, p, and q.
        self.assertEqual(str(parting_saying(one, 0, other, 0)), "~[a]~(p & q)")
        third = Table(House(["p", "q", "r"], ["000", "100", "010", "000"], a=[0, 0, 0, 0]))
        fourth = Table(House(["p", "q", "r"], ["000", "100", "010", "001"], a=[0, 0, 0, 0]))
        # The first and the last of the four cases give equal sayings.
        self.assertEqual(str(parting_saying(third, 0, fourth, 0)), "[a](~r | p | q)")
        self.assertEqual(str(parting_saying(fourth, 0, third, 0)), "~[a]~(r & ~p & ~q)")

    def test_by_the_words_of_the_document(self):
        depths = set()
        for cases in (some_cases(55, 150), deep_cases(56, 40)):
            for _, first, a, second, b in cases:
                paper = find_parting(first, a, second, b)
                if paper is None:
                    self.assertIsNone(parting_saying(first, a, second, b))
                    continue
                wanted = saying_by_words(first, second, paper, a, b)
                if len(wanted) > 200:
                    continue
                saying = parting_saying(first, a, second, b, most=200)
                self.assertEqual(saying, wanted)
                self.assertEqual(saying.depth, ranks_by_words(first, second)[a, b])
                self.assertNotIn("*", str(saying))
                self.assertIn(a, cases_of(first, saying))
                self.assertNotIn(b, cases_of(second, saying))
                depths.add(saying.depth)
        self.assertLessEqual({0, 1, 2, 3}, depths)

    def test_too_many_parts_just_below_and_just_at(self):
        lengths = set()
        for first, a, second, b in [told[1:] for told in deep_cases(57, 60)] + list(long_cases()):
            paper = find_parting(first, a, second, b)
            if paper is None:
                continue
            length = len(saying_by_words(first, second, paper, a, b))
            lengths.add(length)
            if length <= 200:
                self.assertEqual(len(parting_saying(first, a, second, b, most=length)), length)
            for most in {0, 1, 7, 60, 200, length - 1} - {-1}:
                if length > most:
                    self.assert_error(TooMany(most), parting_saying, first, a, second, b, most=most)
                else:
                    self.assertEqual(len(parting_saying(first, a, second, b, most=most)), length)
            if length > 60:
                self.assert_error(TooMany(60), parting_saying, first, a, second, b)
        self.assertLessEqual({1, 2, 104, 172, 281}, lengths)

    def test_no_long_saying_is_built(self):
        built = []

        def counting(kind):
            def make(*parts):
                made = kind(*parts)
                built.append(len(made))
                return made
            return make

        makers = {kind.__name__: counting(kind) for kind in (And, Or, Not, Knows, Fact)}
        refused = 0
        with mock.patch.multiple(partings, **makers):
            for first, a, second, b in [told[1:] for told in deep_cases(58, 60)] + list(long_cases()):
                for most in (0, 1, 2, 5, 20, 60, 171, 200):
                    del built[:]
                    try:
                        parting_saying(first, a, second, b, most=most)
                    except TooMany:
                        refused += 1
                    self.assertLessEqual(max(built, default=0), most)
        self.assertGreater(refused, 100)


class Errors(Checks):
    def test_errors_in_their_order(self):
        other = Table(House(["p"], ["1", "0"], a=[0, 1], b=[0, 0]))
        calls = (find_parting, parting_saying, lambda **told: parting_holds(paper=[], **told))
        for call in calls:
            good = {"first": TABLE, "a": 0, "second": other, "b": 1}
            for house, part in ((House(["q"], ["1"], a=[0], b=[0]), "facts"), (House(["q"], ["1"], c=[0]), "facts"),
                                (House(["p"], ["1"], a=[0]), "people")):
                for a in (3, -1, HUGE):
                    for b in (2, -1, -HUGE):
                        self.assert_errors_in_order(call, good, ({"first": Table(house)}, UnlikeHouses(part)),
                                                    ({"a": a}, UnknownCase(a)), ({"b": b}, UnknownCase(b)))
        self.assert_error(UnlikeHouses("people"), parting_holds, TABLE, 0, Table(House(["p"], ["1"], a=[0])), 0, [])
        self.assert_error(UnknownCase(2), parting_saying, TABLE, 2, other, 2, most=0)
        self.assert_error(UnknownCase(5), parting_saying, TABLE, 5, other, 1, most=0)


if __name__ == "__main__":
    unittest.main()
