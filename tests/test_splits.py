import itertools
import types
import unittest

from thinwall.errors import BadSize, BadText, SizeMismatch, UnknownCase
from thinwall.splits import Split, pooled, shared, splits_of
from support import HUGE, Checks, all_splits, random_split, source_of


def pairs_together(split):
    return {(one, other) for cell in split.cells() for one in cell for other in cell}


class MakingSplits(Checks):
    def test_the_examples(self):
        self.assertEqual([Split([5, 7, 5]).marks(), str(Split([5, 7, 5])), str(Split([0, 0, 1]) | Split([0, 1, 1]))],
                         [[0, 1, 0], "0,2|1", "0,1,2"])
        self.assertEqual(repr(Split([5, 7, 5])), "Split([0, 1, 0])")

    def test_cases_with_equal_marks_lie_together(self):
        split = Split([4, -4, 4, 9, -4])
        self.assertEqual(split.size, 5)
        self.assertEqual(split.marks(), [0, 1, 0, 3, 1])
        self.assertEqual(split.cells(), [[0, 2], [1, 4], [3]])
        self.assertEqual(len(split), 3)

    def test_marks_may_be_huge_or_below_0(self):
        self.assertEqual(Split([HUGE, -HUGE, HUGE, -1]).marks(), [0, 1, 0, 3])

    def test_one_case_and_twelve(self):
        self.assertEqual(Split([7]).cells(), [[0]])
        self.assertEqual(Split(list(range(11, -1, -1))).marks(), list(range(12)))
        self.assertEqual(len(Split([3] * 12)), 1)

    def test_other_numbers_of_cases_are_refused(self):
        for size in (0, 13, 14, 100):
            self.assert_error(BadSize(size), Split, list(range(size)))

    def test_most_whole_and_apart(self):
        self.assertEqual(Split.MOST, 12)
        self.assertEqual([str(Split.whole(1)), str(Split.whole(3)), len(Split.whole(12))], ["0", "0,1,2", 1])
        self.assertEqual([str(Split.apart(1)), str(Split.apart(3)), len(Split.apart(12))], ["0", "0|1|2", 12])
        for size in (0, -1, 13, HUGE, -HUGE):
            self.assert_error(BadSize(size), Split.whole, size)
            self.assert_error(BadSize(size), Split.apart, size)

    def test_the_list_of_marks_is_copied_and_not_changed(self):
        marks = [5, 7, 5]
        split = self.assert_leaves_arguments(Split, marks)
        marks[1] = 5
        marks.append(8)
        self.assertEqual((split.marks(), split.size), ([0, 1, 0], 3))

    def test_lists_that_are_returned_are_new(self):
        split = Split([5, 7, 5])
        self.assert_fresh_list(split.marks)
        self.assert_fresh_list(split.cells)
        self.assert_fresh_list(split.cell, 0)
        self.assertEqual(str(split), "0,2|1")


class AskingSplits(Checks):
    def test_cell_and_together(self):
        for split in all_splits(4):
            for one in range(split.size):
                wanted = [other for other in range(split.size) if split.marks()[other] == split.marks()[one]]
                self.assertEqual(split.cell(one), wanted)
                for other in range(split.size):
                    self.assertIs(split.together(one, other), other in wanted)

    def test_cases_that_do_not_exist(self):
        split = Split([0, 1, 0])
        for case in (-1, 3, -3, HUGE, -HUGE):
            self.assert_error(UnknownCase(case), split.cell, case)
            for call in (split.together, split.merged):
                self.assert_error(UnknownCase(case), call, case, 0)
                self.assert_error(UnknownCase(case), call, 0, case)
                self.assert_error(UnknownCase(case), call, case, 99)
                self.assert_error(UnknownCase(99), call, 99, case)

    def test_equal_splits(self):
        self.assertTrue(Split([5, 7, 5]) == Split([0, 1, 0]))
        self.assertFalse(Split([5, 7, 5]) != Split([0, 1, 0]))
        self.assertFalse(Split([0, 0]) == Split([0, 0, 0]))
        splits = all_splits(4)
        for one, other in itertools.product(splits, splits):
            self.assertIs(one == other, one.marks() == other.marks())
            self.assertIs(one != other, one.marks() != other.marks())

    def test_a_split_is_like_no_other_thing(self):
        self.assert_unlike_other_things(Split([0]))
        self.assert_unlike_other_things(Split([0, 0]))
        self.assertFalse(Split([0, 1]) == [0, 1])

    def test_finer(self):
        for one, other in itertools.product(splits_of(4), splits_of(4)):
            self.assertIs(one.finer(other), pairs_together(one) <= pairs_together(other))
        self.assertTrue(Split.apart(12).finer(Split.whole(12)))

    def test_and_is_what_both_have_together(self):
        for one, other in itertools.product(splits_of(4), splits_of(4)):
            self.assertEqual(pairs_together(one & other), pairs_together(one) & pairs_together(other))

    def test_or_is_the_finest_split_that_both_are_finer_than(self):
        for one, other in itertools.product(splits_of(4), splits_of(4)):
            joined = one | other
            above = [split for split in splits_of(4) if one.finer(split) and other.finer(split)]
            self.assertIn(joined, above)
            self.assertTrue(all(joined.finer(split) for split in above))

    def test_splits_of_other_sizes(self):
        calls = [Split.finer, lambda one, other: one & other, lambda one, other: one | other]
        for call in calls:
            self.assert_error(SizeMismatch(3, 2), call, Split.whole(3), Split.whole(2))
            self.assert_error(SizeMismatch(1, 12), call, Split.whole(1), Split.whole(12))

    def test_operators_leave_both_splits_as_they_were(self):
        one, other = Split([0, 0, 1, 1]), Split([0, 1, 1, 2])
        one & other, one | other, one.finer(other), one.merged(0, 3), one.parted(list("abab"))
        self.assertEqual((one.marks(), other.marks()), ([0, 0, 2, 2], [0, 1, 1, 3]))


class ChangingSplits(Checks):
    def test_parted_by_strings_and_by_integers(self):
        split = Split([0, 0, 0, 1])
        self.assertEqual(split.parted(["yes", "no", "yes", "no"]).marks(), [0, 1, 0, 3])
        self.assertEqual(split.parted([HUGE, HUGE, -1, HUGE]).marks(), [0, 0, 2, 3])
        self.assertEqual(split.parted(["-"] * 4), split)
        for one, other in itertools.product(splits_of(4), splits_of(4)):
            self.assertEqual(one.parted(other.marks()), one & other)

    def test_parted_wants_a_word_for_each_case(self):
        for words in ([], ["a"], ["a"] * 3, ["a"] * 13):
            self.assert_error(SizeMismatch(2, len(words)), Split([0, 0]).parted, words)

    def test_parted_keeps_the_words(self):
        words = ["a", "b"]
        parted = self.assert_leaves_arguments(Split.whole(2).parted, words)
        words[1] = "a"
        self.assertEqual(parted.marks(), [0, 1])

    def test_merged(self):
        self.assertEqual(Split([0, 1, 2, 1]).merged(3, 2).cells(), [[0], [1, 2, 3]])
        for split in splits_of(4):
            for first, second in itertools.product(range(4), range(4)):
                cells = [cell for cell in split.cells() if first not in cell and second not in cell]
                cells.append(sorted(set(split.cell(first) + split.cell(second))))
                self.assertEqual(split.merged(first, second).cells(), sorted(cells))


class TextsOfSplits(Checks):
    def test_str_and_repr(self):
        self.assertEqual(str(Split([0, 1, 0, 2, 1])), "0,2|1,4|3")
        self.assertEqual(str(Split([0] * 11 + [1])), "0,1,2,3,4,5,6,7,8,9,10|11")
        self.assertEqual(repr(Split([3])), "Split([0])")
        self.assertEqual(repr(Split([9, 8, 9, 7])), "Split([0, 1, 0, 3])")

    def test_each_text_is_read_back(self):
        for split in all_splits(6):
            self.assertEqual(Split.read(str(split)), split)
        source = source_of(1)
        for _ in range(100):
            split = random_split(source, source.randint(7, 12))
            self.assertEqual(Split.read(str(split)), split)

    def test_texts_that_no_split_has(self):
        texts = ["", " ", "1", "0,", ",0", "0|", "|0", "|", ",", "0|0", "0,0", "0,2", "1,0", "1|0", "0,1|", "0||1",
                 "0, 1", " 0", "0 ", "0\n", "00", "0,01", "+0", "-0", "-1", "0,-1", "0,1,", "0;1", "a", "0,a", "0|1,",
                 "0,2|1|2", "0|2,1", "1,2|0", "0.0", "\u0660", "0,\u0661", "0|\u00b9", str(HUGE), "0," + str(HUGE),
                 ",".join(map(str, range(13))), "|".join(map(str, range(13))), "0," * 500, "0|1,3", "12"]
        for text in texts:
            self.assert_error(BadText(text), Split.read, text)

    def test_only_the_texts_of_splits_are_read(self):
        known = {str(split): split for split in all_splits(3)}
        for length in range(6):
            for letters in itertools.product("012,|", repeat=length):
                text = "".join(letters)
                if text in known:
                    self.assertEqual(Split.read(text), known[text])
                else:
                    self.assert_error(BadText(text), Split.read, text)


class SeveralSplits(Checks):
    def test_none_one_and_several(self):
        self.assertEqual(pooled(size=3), Split.whole(3))
        self.assertEqual(shared(size=3), Split.apart(3))
        self.assertEqual(pooled(Split([0, 1, 0]), size=3), Split([0, 1, 0]))
        self.assertEqual(shared(Split([0, 1, 0]), size=3), Split([0, 1, 0]))
        one, two, three = Split([0, 0, 0, 1]), Split([0, 0, 1, 1]), Split([0, 1, 0, 1])
        self.assertEqual(pooled(one, two, three, size=4), one & two & three)
        self.assertEqual(pooled(one, two, size=4).marks(), [0, 0, 2, 3])
        self.assertEqual(shared(Split([0, 0, 1, 2]), Split([0, 1, 1, 2]), size=4).marks(), [0, 0, 0, 3])
        self.assertEqual(shared(one, two, three, size=4), Split.whole(4))

    def test_errors(self):
        for call in (pooled, shared):
            for size in (0, 13, -1, HUGE, -HUGE):
                self.assert_error(BadSize(size), call, size=size)
                self.assert_error(BadSize(size), call, Split.whole(2), Split.whole(3), size=size)
            self.assert_error(SizeMismatch(2, 5), call, Split.whole(2), Split.whole(5), Split.whole(4), size=2)
            self.assert_error(SizeMismatch(2, 1), call, Split.whole(1), size=2)
            self.assertRaises(TypeError, call, Split.whole(2))


class AllSplitsOfASize(Checks):
    def test_each_split_once_and_in_order(self):
        for size, many in ((1, 1), (2, 2), (3, 5), (4, 15), (5, 52), (6, 203), (7, 877), (8, 4140)):
            found = [split.marks() for split in splits_of(size)]
            self.assertEqual(len(found), many)
            self.assertTrue(all(one < other for one, other in zip(found, found[1:])))
        wanted = {tuple(Split(list(marks)).marks()) for marks in itertools.product(range(5), repeat=5)}
        self.assertEqual([tuple(split.marks()) for split in splits_of(5)], sorted(wanted))

    def test_they_are_found_one_after_the_other(self):
        found = splits_of(12)
        self.assertIsInstance(found, types.GeneratorType)
        first = [next(found).marks() for _ in range(3)]
        self.assertEqual(first, [[0] * 12, [0] * 11 + [11], [0] * 10 + [10, 0]])

    def test_two_iterations_at_the_same_time(self):
        one, other = splits_of(4), splits_of(4)
        next(one)
        together = [(next(one), next(other)) for _ in range(14)]
        self.assertEqual([pair[0] for pair in together], list(splits_of(4))[1:])
        self.assertEqual([pair[1] for pair in together], list(splits_of(4))[:14])

    def test_the_error_comes_when_the_iteration_begins(self):
        for size in (0, 13, -1, HUGE, -HUGE):
            found = splits_of(size)
            self.assert_error(BadSize(size), next, found)


if __name__ == "__main__":
    unittest.main()
