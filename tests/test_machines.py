import copy
import itertools
import unittest

from thinwall.errors import BadMachine, UnknownDeed, UnlikeMachines
from thinwall.machines import Machine, paired, pairing_holds
from support import HUGE, Checks, source_of
from telling import rows_up_to

ONE = Machine("x", [[1], [0]], [["u"], ["v"]])
OTHER = Machine("x", [[1], [2], [0]], [["u"], ["v"], ["u"]])
TWO = Machine("ab", [[1, 0], [2, 1], [2, 0]], [["-", "yes"], ["no", "-"], ["-", "-"]], first=1)


def random_machine(source, size=None, signs=None, words="uv"):
    size = size or source.randint(1, 5)
    signs = source.choice(["", "x", "bz", "acd"]) if signs is None else signs
    steps = [[source.randrange(size) for _ in signs] for _ in range(size)]
    told = [[source.choice(words) for _ in signs] for _ in range(size)]
    return Machine(signs, steps, told, first=source.randrange(size))


def spread(source, machine, copies):
    """A machine that agrees with this one and has several states for each of its states, some never reached."""
    size = len(machine)
    order = list(range(size * copies))
    source.shuffle(order)
    steps, words = [None] * len(order), [None] * len(order)
    for state in range(size):
        for at in range(copies):
            number = order[state * copies + at]
            steps[number] = [order[behind * copies + source.randrange(copies)] for behind in machine.steps()[state]]
            words[number] = machine.words()[state]
    return Machine(machine.signs, steps, words, first=order[machine.first * copies])


def given(machine, row):
    """The words and the last state, sign by sign."""
    state, words = machine.first, []
    for sign in row:
        at = machine.signs.index(sign)
        words.append(machine.words()[state][at])
        state = machine.steps()[state][at]
    return words, state


def pairs_met(one, other):
    """The pairs of states that the same rows lead to."""
    found = [(one.first, other.first)]
    for a, b in found:
        for pair in zip(one.steps()[a], other.steps()[b]):
            if pair not in found:
                found.append(pair)
    return sorted(found)


def some_pairs(seed, many):
    source = source_of(seed)
    for turn in range(many):
        one = random_machine(source, source.randint(1, 3), words="uuuv")
        if turn % 3 == 0:
            yield source, one, spread(source, one, source.randint(1, 3))
        else:
            yield source, one, random_machine(source, source.randint(1, 3), one.signs, "uuuv")


class MakingMachines(Checks):
    def test_the_example(self):
        self.assertEqual([ONE("xxx"), ONE.parting(OTHER), len(OTHER.least())], [["u", "v", "u"], "xxxx", 3])

    def test_attributes_and_lists(self):
        self.assertEqual((TWO.signs, TWO.first, len(TWO)), ("ab", 1, 3))
        self.assertEqual(TWO.steps(), [[1, 0], [2, 1], [2, 0]])
        self.assertEqual(TWO.words(), [["-", "yes"], ["no", "-"], ["-", "-"]])
        self.assertEqual((ONE.first, len(ONE)), (0, 2))
        self.assert_fresh_list(TWO.steps)
        self.assert_fresh_list(TWO.words)
        none = Machine("", [[], []], [[], []], first=1)
        self.assertEqual((none.signs, none.first, len(none), none.steps(), none.words()), ("", 1, 2, [[], []], [[], []]))

    def test_the_lists_are_copied(self):
        steps, words = [[1], [0]], [["u"], ["v"]]
        machine = Machine("x", steps, words)
        steps[0][0], words[0][0] = 0, "w"
        steps.append([0])
        words.append(["w"])
        self.assertEqual(machine, ONE)
        self.assert_leaves_arguments(Machine, "x", [[0]], [["u"]], first=0)

    def test_errors_in_their_order(self):
        good = {"signs": "ab", "steps": [[0, 1], [1, 1]], "words": [["u", "v"], ["w", ""]], "first": 1}
        bad_steps = [[], [[0], [1]], [[0, 1], [1]], [[0, 1], [1, 1, 1]], [[0, 1], [1, 2]], [[0, -1], [1, 1]],
                     [[0, HUGE], [0, 0]], [[0, 1], [-HUGE, 0]], [[], []]]
        bad_words = [[], [["u", "v"]], [["u", "v"], ["w"]], [["u", "v"], ["w", "", ""]], [["u", "v"]] * 3, [[], []]]
        for signs in ("ba", "aa", "aB", "a1", "a b", "A", "a\u00e9", "abb"):
            self.assert_errors_in_order(Machine, good, ({"signs": signs}, BadMachine("signs")),
                                        ({"steps": []}, BadMachine("steps")), ({"words": []}, BadMachine("words")),
                                        ({"first": 2}, BadMachine("first")))
        for steps in bad_steps:
            for words in bad_words:
                for first in (-1, 2, HUGE, -HUGE):
                    self.assert_errors_in_order(
                        Machine, good, ({"steps": steps}, BadMachine("steps")), ({"words": words}, BadMachine("words")),
                        ({"first": first}, BadMachine("first")))
        self.assert_error(BadMachine("steps"), Machine, "", [], [])
        self.assert_error(BadMachine("words"), Machine, "", [[]], [])
        self.assert_error(BadMachine("first"), Machine, "", [[]], [[]], first=1)
        self.assert_error(BadMachine("steps"), Machine, "abc", [[0, 0]], [["u", "u", "u"]])

    def test_equal_machines(self):
        machines = [ONE, OTHER, TWO, Machine("y", [[1], [0]], [["u"], ["v"]]), Machine("x", [[1], [1]], [["u"], ["v"]]),
                    Machine("x", [[1], [0]], [["u"], ["u"]]), Machine("x", [[1], [0]], [["u"], ["v"]], first=1),
                    Machine("", [[]], [[]]), Machine("", [[], []], [[], []])]
        for one, other in itertools.product(machines, repeat=2):
            self.assertIs(one == other, one is other)
            self.assertIs(one != other, one is not other)
        self.assertTrue(ONE == Machine("x", [[1], [0]], [["u"], ["v"]], first=0))
        self.assertFalse(ONE != Machine("x", [[1], [0]], [["u"], ["v"]]))
        self.assert_unlike_other_things(ONE)


class RunningMachines(Checks):
    def test_words_and_states(self):
        self.assertEqual((TWO(""), TWO.after("")), ([], 1))
        self.assertEqual((TWO("aba"), TWO.after("aba")), (["no", "-", "-"], 1))
        source = source_of(90)
        for _ in range(80):
            machine = random_machine(source)
            row = "".join(source.choice(machine.signs) for _ in range(source.choice([0, 1, 5, 300]))) if machine.signs else ""
            self.assertEqual((machine(row), machine.after(row)), given(machine, row))
            self.assert_fresh_list(machine, row)

    def test_rows_with_characters_that_are_no_signs(self):
        for row, sign, place in (("c", "c", 0), ("abA", "A", 2), ("a b", " ", 1), ("ba?-", "?", 2)):
            self.assert_error(UnknownDeed(sign, place), TWO, row)
            self.assert_error(UnknownDeed(sign, place), TWO.after, row)
        self.assert_error(UnknownDeed("a", 0), Machine("", [[]], [[]]), "a")


class TwoMachines(Checks):
    def test_parting_and_pairing_against_all_rows(self):
        lengths = set()
        for _, one, other in some_pairs(91, 150):
            # Machines of n and m states that differ do so for a row of at most n + m - 1 signs.
            rows = rows_up_to(one.signs, min(len(one) + len(other) - 1, 6))
            wanted = [row for row in rows if one(row) != other(row)][:1]
            answer = one.parting(other)
            if not wanted and answer is not None:
                self.assertGreater(len(answer), 6)
                continue
            self.assertEqual(answer, wanted[0] if wanted else None)
            if wanted:
                self.assertIsNone(one.pairing(other))
                self.assertEqual(one(answer)[:-1], other(answer)[:-1])
                self.assertNotEqual(one(answer)[-1], other(answer)[-1])
            else:
                self.assertEqual(one.pairing(other), pairs_met(one, other))
                self.assert_fresh_list(one.pairing, other)
            self.assertEqual(other.parting(one), answer)
            lengths.add(len(answer) if wanted else None)
        self.assertLessEqual({None, 1, 2, 3}, lengths)

    def test_a_machine_with_itself(self):
        for machine in (ONE, OTHER, TWO, Machine("", [[]], [[]])):
            self.assertIsNone(machine.parting(machine))
            self.assertEqual(machine.pairing(machine), pairs_met(machine, machine))
        self.assertEqual(TWO.pairing(TWO), [(0, 0), (1, 1), (2, 2)])
        unreached = Machine("x", [[0], [0]], [["u"], ["v"]])
        self.assertEqual(unreached.pairing(unreached), [(0, 0)])

    def test_the_words_differ_only_late(self):
        for size in (7, 200):
            one = Machine("x", [[(at + 1) % size] for at in range(size)], [["u"]] * (size - 1) + [["v"]])
            other = Machine("x", [[(at + 1) % (size + 1)] for at in range(size + 1)], [["u"]] * (size - 1) + [["v"], ["u"]])
            self.assertEqual(one.parting(other), "x" * (2 * size))
            self.assertIsNone(one.pairing(other))
        many = Machine("x", [[(at + 1) % 60] for at in range(60)], [["u"]] * 60)
        more = Machine("x", [[(at + 1) % 61] for at in range(61)], [["u"]] * 61)
        self.assertEqual(many.pairing(more), list(itertools.product(range(60), range(61))))

    def test_the_alphabetically_first_of_the_shortest_rows(self):
        one = Machine("abc", [[0, 0, 1], [0, 0, 0]], [["u", "u", "u"], ["u", "u", "u"]])
        other = Machine("abc", [[0, 0, 1], [0, 0, 0]], [["u", "u", "u"], ["u", "v", "w"]])
        self.assertEqual(one.parting(other), "cb")
        self.assertEqual(Machine("ab", [[0, 0]], [["u", "v"]]).parting(Machine("ab", [[0, 0]], [["w", "w"]])), "a")

    def test_other_signs(self):
        for one, other in ((ONE, TWO), (TWO, ONE), (ONE, Machine("", [[]], [[]])), (ONE, Machine("y", [[0]], [["u"]]))):
            self.assert_error(UnlikeMachines(), one.parting, other)
            self.assert_error(UnlikeMachines(), one.pairing, other)
            self.assert_error(UnlikeMachines(), pairing_holds, one, other, [])
            self.assert_error(UnlikeMachines(), pairing_holds, one, other, [(0, 0), (-1, 9)])
            self.assert_error(UnlikeMachines(), paired, one, other)
            self.assert_error(UnlikeMachines(), paired, one, one, other, one)


class PairingPapers(Checks):
    def test_found_papers_and_spoilt_ones(self):
        found = []
        for source, one, other in some_pairs(92, 120):
            paper = pairs_met(one, other)
            papers = [paper, paper[::-1], paper + paper, [], paper + [(source.randrange(len(one)), source.randrange(len(other)))]]
            papers += [paper[:at] + paper[at + 1:] for at in range(len(paper))]
            papers += [paper[:at] + [(source.randrange(len(one)), source.randrange(len(other)))] + paper[at + 1:]
                       for at in range(len(paper))]
            papers += [[(b, a) for a, b in paper], list(itertools.product(range(len(one)), range(len(other))))]
            for pairs in papers:
                wanted = self.is_paper(one, other, pairs)
                self.assertIs(pairing_holds(one, other, pairs), wanted)
                found.append(wanted)
            self.assertIs(pairing_holds(one, other, paper), one.parting(other) is None)
            for wrong in (-1, HUGE, -HUGE, 12):
                for pair in ((wrong, other.first), (one.first, wrong), (wrong, wrong)):
                    self.assertIs(pairing_holds(one, other, paper + [pair]), False)
                    self.assertIs(pairing_holds(one, other, [pair] + paper), False)
        self.assertGreater(found.count(True), 60)
        self.assertGreater(found.count(False), 200)

    def is_paper(self, one, other, pairs):
        return (one.first, other.first) in pairs and all(
            a in range(len(one)) and b in range(len(other)) and one.words()[a] == other.words()[b]
            and all(pair in pairs for pair in zip(one.steps()[a], other.steps()[b])) for a, b in pairs)

    def test_more_pairs_than_are_met(self):
        machine = Machine("x", [[0], [1]], [["u"], ["u"]])
        for pairs in ([(0, 0)], [(0, 0), (1, 1)], [(0, 0), (0, 1), (1, 0)]):
            self.assertIs(pairing_holds(machine, machine, pairs), True)
        self.assertIs(pairing_holds(machine, machine, [(1, 1)]), False)

    def test_a_state_just_too_great(self):
        self.assertIs(pairing_holds(ONE, ONE, [(0, 0), (1, 1)]), True)
        self.assertIs(pairing_holds(ONE, ONE, [(0, 0), (1, 1), (2, 0)]), False)
        self.assertIs(pairing_holds(ONE, ONE, [(0, 0), (1, 1), (0, 2)]), False)
        self.assert_leaves_arguments(pairing_holds, ONE, ONE, [(0, 0), (1, 1), (0, 0)])


class LeastMachines(Checks):
    def test_by_hand(self):
        self.assertEqual(ONE.least(), ONE)
        self.assertEqual(OTHER.least(), OTHER)
        self.assertEqual(TWO.least(), Machine("ab", [[1, 0], [1, 2], [0, 2]], [["no", "-"], ["-", "-"], ["-", "yes"]]))
        same = Machine("ab", [[1, 2], [0, 0], [1, 1]], [["u", "v"]] * 3, first=2)
        self.assertEqual(same.least(), Machine("ab", [[0, 0]], [["u", "v"]]))
        self.assertEqual(Machine("", [[], []], [[], []], first=1).least(), Machine("", [[]], [[]]))

    def test_against_all_rows(self):
        smaller = 0
        for _, one, other in some_pairs(93, 120):
            for machine in (one, other):
                least = machine.least()
                self.assertIsNone(least.parting(machine))
                self.assertEqual(least.first, 0)
                rows = rows_up_to(machine.signs, 4)
                # Two states of the least machine differ in their words for some row.
                behaviours = {str([given(Machine(machine.signs, least.steps(), least.words(), first=state), row)[0]
                                   for row in rows]) for state in range(len(least))}
                self.assertEqual(len(behaviours), len(least))
                first_rows = {}
                for row in rows:
                    first_rows.setdefault(least.after(row), row)
                self.assertEqual(list(first_rows), list(range(len(first_rows))))
                smaller += len(least) < len(machine)
            self.assertEqual(one.least() == other.least(), one.parting(other) is None)
        self.assertGreater(smaller, 40)

    def test_many_states(self):
        source = source_of(94)
        for _ in range(10):
            machine = random_machine(source, 12, "abc")
            self.assertEqual(spread(source, machine, 8).least(), machine.least())
        road = Machine("x", [[min(at + 1, 299)] for at in range(300)], [["u"]] * 299 + [["v"]])
        self.assertEqual(len(road.least()), 300)
        self.assertEqual(Machine("x", [[min(at + 1, 299)] for at in range(300)], [["u"]] * 300).least(),
                         Machine("x", [[0]], [["u"]]))


class RowsWith(Checks):
    def test_against_all_rows(self):
        found = set()
        source = source_of(95)
        for _ in range(120):
            machine = random_machine(source)
            length = source.randint(0, 5)
            rows = [row for row in rows_up_to(machine.signs, length) if len(row) == length]
            words = machine(source.choice(rows)) if rows and source.random() < 0.8 else [source.choice("uvw") for _ in range(length)]
            answer = list(machine.rows_with(words))
            self.assertEqual(answer, [row for row in rows if machine(row) == words])
            found.add(min(len(answer), 3))
        self.assertEqual(found, {0, 1, 2, 3})

    def test_no_words(self):
        self.assertEqual(list(TWO.rows_with([])), [""])
        self.assertEqual(list(Machine("", [[]], [[]]).rows_with([])), [""])
        self.assertEqual(list(Machine("", [[]], [[]]).rows_with(["u"])), [])

    def test_one_after_the_other(self):
        machine = Machine("abcdef", [[0] * 6], [["u"] * 6])
        rows = machine.rows_with(["u"] * 40)
        self.assertEqual([next(rows) for _ in range(7)], ["a" * 40, *["a" * 39 + sign for sign in "bcdef"], "a" * 38 + "ba"])
        self.assertEqual(list(itertools.islice(machine.rows_with(["u"] * 40), 10000))[-1][:30], "a" * 30)

    def test_beginnings_that_no_row_has_are_given_up(self):
        # All rows of 39 signs begin well, but the last word is given in one state alone, or in none.
        machine = Machine("abz", [[0, 0, 1], [1, 1, 1]], [["u", "u", "u"], ["v", "u", "u"]])
        self.assertEqual(list(machine.rows_with(["u"] * 39 + ["w"])), [])
        self.assertEqual(list(machine.rows_with(["v"] + ["u"] * 39)), [])
        trap = Machine("abc", [[0, 0, 1], [2, 2, 2], [2, 2, 2]], [["u", "u", "v"], ["w", "u", "u"], ["u", "u", "u"]])
        self.assertEqual(list(trap.rows_with(["u"] * 38 + ["w"] * 2)), [])
        self.assertEqual(len(list(itertools.islice(trap.rows_with(["u"] * 38 + ["v", "w"]), 50))), 50)
        exact = Machine("ab", [[0, 1], [1, 1]], [["u", "v"], ["w", "w"]])
        self.assertEqual(list(exact.rows_with(["u"] * 39 + ["v"])), ["a" * 39 + "b"])

    def test_machines_with_many_states(self):
        size = 1000
        machine = Machine("ab", [[(at + 1) % size, at] for at in range(size)], [["u", "v"]] * size)
        self.assertEqual(list(machine.rows_with(["u", "v"] * 20)), ["ab" * 20])

    def test_words_that_are_changed_later_have_no_effect(self):
        words = ["u", "v"]
        rows = ONE.rows_with(words)
        self.assertEqual(next(rows), "xx")
        many = Machine("ab", [[0, 0]], [["u", "u"]])
        words = ["u", "u"]
        rows = many.rows_with(words)
        first = next(rows)
        words.append("w")
        words[0] = "w"
        self.assertEqual([first] + list(rows), ["aa", "ab", "ba", "bb"])


class PairedMachines(Checks):
    def test_by_hand(self):
        both = paired(ONE, OTHER)
        self.assertEqual((both.signs, both.first, len(both)), ("x", 0, 6))
        self.assertEqual(both("xxxx"), ["u+u", "v+v", "u+u", "v+u"])
        self.assertEqual(both.steps(), [[1], [2], [3], [4], [5], [0]])
        self.assertEqual(paired(TWO), Machine("ab", [[1, 0], [1, 2], [0, 2]], [["no", "-"], ["-", "-"], ["-", "yes"]]))
        self.assertEqual(paired(Machine("", [[]], [[]]), Machine("", [[], []], [[], []], first=1)), Machine("", [[]], [[]]))

    def test_against_all_rows(self):
        source = source_of(96)
        for _ in range(60):
            signs = source.choice(["x", "bz", "acd"])
            machines = [random_machine(source, source.randint(1, 3), signs) for _ in range(source.randint(1, 4))]
            both = paired(*machines)
            states = {}
            for row in rows_up_to(signs, {"x": 40, "bz": 9, "acd": 6}[signs]):
                self.assertEqual(both(row), ["+".join(words) for words in zip(*[machine(row) for machine in machines])])
                combination = tuple(machine.after(row) for machine in machines)
                states.setdefault(combination, len(states))
                self.assertEqual(both.after(row), states[combination])
            self.assertEqual(both.first, 0)
            self.assertGreaterEqual(len(both), len(states))

    def test_nothing_is_changed(self):
        kept = copy.deepcopy((ONE, OTHER, TWO))
        paired(ONE, OTHER, ONE), ONE.parting(OTHER), ONE.pairing(ONE), OTHER.least(), list(ONE.rows_with(["u"]))
        TWO.least(), TWO("ab"), TWO.after("ba"), paired(TWO, TWO)
        self.assertEqual((ONE, OTHER, TWO), kept)
        found = OTHER.least()
        found.steps()[0][0] = 7
        self.assertEqual(found, OTHER)


if __name__ == "__main__":
    unittest.main()
