import itertools
import unittest

from thinwall.chains import chain_holds, find_chain, find_island, island_holds
from thinwall.errors import SizeMismatch, UnknownCase
from thinwall.splits import Split, splits_of
from support import HUGE, Checks, random_split, source_of


def some_lists(seed, many, most):
    source = source_of(seed)
    for _ in range(many):
        size = source.randint(1, most)
        yield [random_split(source, size) for _ in range(source.randint(1, 3))]


def all_chains(splits, first, length):
    """All chains of this length that begin at the case, in the order of lists."""
    if length == 0:
        return [[]]
    steps = [(index, case) for index, split in enumerate(splits) for case in split.cell(first)]
    return [[step] + rest for step in steps for rest in all_chains(splits, step[1], length - 1)]


def first_chain(splits, first, last):
    for length in range(splits[0].size):
        for chain in all_chains(splits, first, length):
            if ([first] + [case for _, case in chain])[-1] == last:
                return chain
    return None


def is_island(splits, first, last, cases):
    closed = all(other in cases for case in cases for split in splits for other in split.cell(case))
    return first in cases and last not in cases and closed


def all_islands(splits, first, last):
    size = splits[0].size
    groups = [group for length in range(size + 1) for group in itertools.combinations(range(size), length)]
    return [list(group) for group in groups if is_island(splits, first, last, group)]


class Chains(Checks):
    def test_the_example(self):
        self.assertEqual(find_chain([Split([0, 0, 1]), Split([0, 1, 1])], 0, 2), [(0, 1), (1, 2)])

    def test_it_is_the_shortest_and_the_first_of_those(self):
        for splits in some_lists(2, 60, 4):
            for first, last in itertools.product(range(splits[0].size), repeat=2):
                found = find_chain(splits, first, last)
                self.assertEqual(found, first_chain(splits, first, last))
                if found is not None:
                    self.assertTrue(all(isinstance(step, tuple) for step in found))
                    self.assertIs(chain_holds(splits, first, last, found), True)

    def test_a_long_chain(self):
        one = Split([case // 2 for case in range(12)])
        other = Split([(case + 1) // 2 for case in range(12)])
        self.assertEqual(find_chain([one, other], 0, 11), [(case % 2, case + 1) for case in range(11)])
        self.assertEqual(find_chain([other, one], 11, 0), [((case + 1) % 2, case) for case in range(10, -1, -1)])

    def test_the_empty_chain(self):
        splits = [Split([0, 0, 1])]
        self.assertEqual(find_chain(splits, 2, 2), [])
        self.assertIs(chain_holds(splits, 2, 2, []), True)
        self.assertIs(chain_holds(splits, 0, 1, []), False)
        self.assertEqual(find_chain([Split([0])], 0, 0), [])

    def test_chains_that_are_longer_than_needed_hold(self):
        splits = [Split([0, 0, 1]), Split([0, 1, 1])]
        for chain in ([(0, 1), (0, 0), (0, 1), (1, 2)], [(1, 0), (0, 1), (1, 1), (1, 2)]):
            self.assertIs(chain_holds(splits, 0, 2, chain), True)
        self.assertIs(chain_holds(splits, 1, 1, [(0, 0), (0, 1)]), True)

    def test_chains_that_do_not_hold(self):
        splits = [Split([0, 0, 1]), Split([0, 1, 1])]
        wrong = [[(0, 1)], [(0, 1), (0, 2)], [(1, 2)], [(0, 2)], [(0, 1), (1, 2), (1, 1)], [(1, 1), (1, 2)]]
        wrong += [[(index, 1), (1, 2)] for index in (-1, -2, 2, HUGE, -HUGE)]
        wrong += [[(0, 1), (1, case)] for case in (-1, 3, HUGE, -HUGE)]
        wrong += [[(0, -2), (1, 2)], [(0, 1), (-1, 2)], [(0, -3), (0, 1), (1, 2)]]
        for chain in wrong:
            self.assertIs(chain_holds(splits, 0, 2, chain), False, chain)

    def test_exactly_the_chains_hold(self):
        for splits in some_lists(3, 15, 3):
            size = splits[0].size
            steps = list(itertools.product(range(-1, len(splits) + 1), range(-1, size + 1)))
            for first, last in itertools.product(range(size), repeat=2):
                for length in range(3):
                    right = [chain for chain in all_chains(splits, first, length)
                             if ([first] + [case for _, case in chain])[-1] == last]
                    for chain in itertools.product(steps, repeat=length):
                        self.assertIs(chain_holds(splits, first, last, list(chain)), list(chain) in right)


class Islands(Checks):
    def test_it_is_the_smallest_one(self):
        for splits in some_lists(4, 60, 5):
            for first, last in itertools.product(range(splits[0].size), repeat=2):
                islands = all_islands(splits, first, last)
                found = find_island(splits, first, last)
                self.assertEqual(found, islands[0] if islands else None)
                self.assertEqual(find_chain(splits, first, last) is None, found is not None)
                if found is not None:
                    self.assertIs(island_holds(splits, first, last, found), True)

    def test_exactly_the_islands_hold(self):
        for splits in some_lists(5, 20, 4):
            size = splits[0].size
            for first, last in itertools.product(range(size), repeat=2):
                for length in range(4):
                    for cases in itertools.product(range(size), repeat=length):
                        wanted = is_island(splits, first, last, cases)
                        self.assertIs(island_holds(splits, first, last, list(cases)), wanted)

    def test_examples(self):
        splits = [Split([0, 0, 1, 2]), Split([0, 1, 0, 2])]
        self.assertEqual(find_island(splits, 2, 3), [0, 1, 2])
        self.assertIs(find_island(splits, 2, 2), None)
        self.assertIs(find_island(splits, 1, 2), None)
        self.assertIs(island_holds(splits, 2, 3, [2, 0, 1, 0, 2, 2]), True)
        self.assertIs(island_holds(splits, 2, 3, [0, 1, 2, 3]), False)
        self.assertIs(island_holds(splits, 2, 3, [2, 0]), False)
        self.assertIs(island_holds(splits, 3, 0, [3, 1, 0, 2]), False)
        self.assertIs(island_holds(splits, 2, 3, []), False)
        self.assertIs(island_holds([Split([0])], 0, 0, [0]), False)

    def test_an_island_may_be_larger_than_needed(self):
        self.assertIs(island_holds([Split.apart(4)], 0, 3, [0, 2]), True)
        self.assertIs(island_holds([Split.apart(4)], 0, 3, [2]), False)

    def test_integers_that_are_not_cases(self):
        for case in (-1, -4, 4, HUGE, -HUGE):
            self.assertIs(island_holds([Split.apart(4)], 0, 3, [0, case]), False)
            self.assertIs(island_holds([Split.apart(4)], 0, 3, [case, 0]), False)


class WrongChainsAndIslands(Checks):
    def test_errors_in_their_order(self):
        calls = [(find_chain, ()), (find_island, ()), (chain_holds, ([],)), (island_holds, ([],))]
        good = [Split.whole(3)]
        mixed = [Split.whole(3), Split.apart(3), Split.whole(2), Split.whole(5)]
        for call, paper in calls:
            for case in (-1, 3, HUGE, -HUGE):
                self.assert_error(UnknownCase(case), call, good, case, 0, *paper)
                self.assert_error(UnknownCase(case), call, good, 0, case, *paper)
                self.assert_error(UnknownCase(case), call, good, case, 77, *paper)
                self.assert_error(UnknownCase(77), call, good, 77, case, *paper)
                self.assert_error(SizeMismatch(3, 2), call, mixed, case, 0, *paper)
                self.assert_error(SizeMismatch(3, 2), call, mixed, 0, case, *paper)
            self.assert_error(SizeMismatch(3, 2), call, mixed, 0, 1, *paper)
            self.assert_error(SizeMismatch(1, 12), call, [Split.whole(1), Split.whole(12)], 0, 0, *paper)

    def test_arguments_and_results_stand_alone(self):
        splits = [Split([0, 0, 1]), Split([0, 1, 1])]
        for call, more in ((find_chain, []), (find_island, []), (chain_holds, [[(0, 1), (1, 2)]]),
                           (island_holds, [[2, 1, 0, 0]])):
            self.assert_leaves_arguments(call, splits, 0, 2, *more)
        self.assert_fresh_list(find_chain, splits, 0, 2)
        self.assert_fresh_list(find_island, [Split([0, 0, 1])], 0, 2)
        self.assertEqual(len(list(splits_of(3))), 5)


if __name__ == "__main__":
    unittest.main()
