"""What points 2 and 3 promise over the whole program."""

import copy
import itertools
import types
import unittest

from thinwall import (alike, bench, chains, closing, deedtext, ears, forms, leasts, ledgers, machines, notes, orders, partings,
                      plain, safety, splits, streets, truths, wishes)
from thinwall.acts import Call, Look, Turn
from thinwall.deeds import Deed, Hint, Letter, Tell, Voice
from thinwall.errors import ThinwallError
from thinwall.houses import House, beside
from thinwall.lots import Lot
from thinwall.machines import Machine
from thinwall.plays import Play
from thinwall.sayings import And, Common, Fact, Knows, Not, Or, Truth, Whether
from thinwall.splits import Split
from thinwall.tables import Table
from rows import LOT, MUD, PLAY
from support import OTHER_THINGS, Checks, parts_of, spoil

HOUSE = House(["p", "q"], ["00", "10", "01"], a=[0, 1, 1], b=[0, 0, 2])
TABLE = Table(HOUSE)
MUD_LOT = Lot(MUD)
MACHINE = Machine("x", [[1], [0]], [["u"], ["v"]])
STANDS = notes.Find(LOT, c=[("*", "-"), ("y", "yes")]).stands()


class SaysYes:
    """Something that calls itself equal to everything."""

    def __eq__(self, other):
        return True

    def __ne__(self, other):
        return False


def street_of_two():
    street = streets.Street()
    street.add_site("s", PLAY, row="x")
    street.add_site("t", PLAY)
    street.link("s", "p", "t", "p")
    street.link("t", "true", "s", "~p")
    return street


def house_of_one(facts, rows):
    return House(facts, rows, a=[0])


STREET = street_of_two()
SHUT = street_of_two()
SHUT.link("s", "~p", "s", "p")

# One call of each function and method that returns a list, or takes one.
CALLS = [
    (Split([0, 1, 0]).marks,), (Split([0, 1, 0]).cells,), (Split([0, 1, 0]).cell, 0), (Split([0, 1, 0]).parted, ["a", "b", "b"]),
    (Split, [3, 4, 3]), (chains.find_chain, [Split([0, 0, 1]), Split([0, 1, 1])], 0, 2),
    (chains.chain_holds, [Split([0, 0, 1])], 0, 1, [(0, 1)]), (chains.find_island, [Split([0, 0, 1])], 0, 2),
    (chains.island_holds, [Split([0, 0, 1])], 0, 2, [1, 0, 0]), (Not(Fact("p")).parts,), (And(Fact("q"), Fact("p")).facts,),
    (house_of_one, ["p"], ["0"]), (HOUSE.facts,), (HOUSE.rows,), (HOUSE.kept, [2, 0]), (truths.cases_of, TABLE, "p"),
    (truths.sure_facts, TABLE, "ab", 0), (ledgers.find_ledger, TABLE, 1, "[a]q"), (ledgers.ledger_holds, TABLE, 1, "q", False, [(1, 0, False)]),
    (alike.rounds, TABLE), (alike.alike_pairs, TABLE, TABLE), (alike.alike_holds, TABLE, TABLE, [(0, 0)]), (leasts.least, TABLE),
    (leasts.least_holds, TABLE, HOUSE, [0, 1, 2]), (leasts.same_form, TABLE, TABLE), (partings.find_parting, TABLE, 0, TABLE, 1),
    (partings.parting_holds, TABLE, 0, TABLE, 1, [(0, 0, 1, "p", 1, -1)]), (Deed().facts,), (Voice("p").said, TABLE),
    (Tell("a", "p").heard, TABLE, "a"), (PLAY.words, "xy", "c", 0), (PLAY.least,), (LOT.names,), (LOT.steps,), (LOT.last_names,),
    (LOT.classes,), (Machine, "x", [[0]], [["u"]]), (MACHINE.steps,), (MACHINE.words,), (MACHINE.pairing, MACHINE), (MACHINE, "xx"),
    (machines.pairing_holds, MACHINE, MACHINE, [(0, 0), (1, 1)]), (wishes.closed_tables, LOT, "false"),
    (wishes.closed_holds, PLAY, [PLAY.start.key], "[b?]p"), (wishes.once, LOT, "[b]p"), (wishes.always, LOT, "p"), (wishes.at_last, LOT, "p"),
    (safety.safe_cases, LOT, "p", "b"), (safety.secrets, LOT), (safety.twins, Lot(PLAY.only("x")), "p", "c", 0),
    (safety.safe_paper, Lot(PLAY.only("x")), "p", "c", 0), (safety.safe_holds, PLAY, "p", "c", 0, [(PLAY.start.key, 1)]),
    (orders.free_pairs, MUD_LOT), (orders.endings, LOT, "xy"), (ears.ears_alike, LOT, LOT, "b"), (notes.Find(LOT).cases,),
    (notes.Find(LOT).ends,), (notes.Find(LOT).stands,), (notes.stands_hold, LOT, "p", STANDS), (STREET.names,), (STREET.links,),
    (STREET.open_cases, "s"), (closing.joint, STREET), (closing.sure, STREET, "s", "p"), (closing.settled, STREET), (closing.strikes, SHUT),
    (closing.rest, SHUT), (closing.strikes_hold, SHUT, [("s", 0, 2)]), (closing.tree_holds, SHUT, ([("s", 0, 2)], "s", [])),
    (closing.refute, SHUT), (forms.table_lines, TABLE), (forms.lot_lines, LOT), (plain.slow_names, PLAY, 2), (plain.slow_fits, PLAY, 2),
    (bench.attempt, bench.Bench(PLAY), [("limit", 7)]),
]


def call_of(entry):
    call, *given = entry
    return call(*given)


def lists_in(found):
    """All lists in what was returned, those within them included."""
    if isinstance(found, (list, tuple)):
        return [found] * isinstance(found, list) + [one for part in found for one in lists_in(part)]
    return []


class Equality(Checks):
    def test_nothing_is_equal_to_something_of_another_kind(self):
        kinds = [[Split([0, 1]), Split([0, 0])], [Truth(True), Fact("p"), Not(Fact("p")), And(Fact("p"), Fact("q")), Knows("a", Fact("p")),
                 Or(Fact("p"), Fact("q")), Whether("a", Fact("p")), Common("a", Fact("p"))], [HOUSE], [TABLE, Table(HOUSE, a=Split.apart(3))],
                 [Deed(), Voice("p"), Hint("a", "p"), Tell("a", "p"), Letter("a", "b", "p"), Look("a", "p"), Call("p"),
                  Turn("p", Deed(), Call("p"))], [PLAY, MUD], [MACHINE, Machine("", [[]], [[]])]]
        for one, other in itertools.permutations(kinds, 2):
            for first, second in itertools.product(one, other):
                self.assertIs(first == second, False)
                self.assertIs(first != second, True)
        for kind in kinds:
            for first, second in itertools.permutations(kind, 2):
                self.assertIs(first == second, False)
                self.assertIs(first != second, True)
            for thing in kind:
                self.assertIs(thing == thing, True)
                self.assertIs(thing != thing, False)
                self.assert_unlike_other_things(thing)
                for text in (str(thing), repr(thing), [thing], (thing,), thing.__class__, SaysYes()):
                    self.assertIs(thing == text, False)
                    self.assertIs(thing != text, True)
        self.assertEqual(len(OTHER_THINGS), 12)

    def test_equal_ones(self):
        self.assertEqual(Play(HOUSE, x="look a: p"), Play(HOUSE, x=Look("a", Fact("p"))))
        self.assertNotEqual(Play(HOUSE, x="look a: p"), Play(HOUSE, y="look a: p"))
        self.assertEqual(beside(HOUSE, HOUSE), beside(HOUSE, HOUSE))
        self.assertEqual(deedtext.read_deed("turn p ?? none :: none"), Turn("p", Deed(), Deed()))
        self.assertEqual(splits.pooled(size=3), Split.whole(3))


class NothingChanges(Checks):
    def test_no_call_changes_its_arguments(self):
        for entry in CALLS:
            kept = [parts_of(copy.deepcopy(one)) for one in entry[1:]]
            call_of(entry)
            if entry[0] is not bench.attempt:
                self.assertEqual([parts_of(one) for one in entry[1:]], kept, entry)

    def test_each_list_is_a_new_one_also_within(self):
        for entry in CALLS:
            first = call_of(entry)
            wanted = copy.deepcopy(first)
            for found in lists_in(first):
                spoil(found)
            again = call_of(entry)
            if lists_in(again):
                self.assertEqual(again, wanted, entry)
            for one, other in itertools.product(lists_in(again), lists_in(first)):
                self.assertIsNot(one, other)

    def test_objects_are_not_changed_by_their_methods(self):
        for entry in CALLS:
            owner = getattr(entry[0], "__self__", None)
            if owner is None or isinstance(owner, types.ModuleType):
                continue
            kept = parts_of(copy.deepcopy(owner))
            call_of(entry)
            self.assertEqual(parts_of(owner), kept, entry)

    def test_what_is_passed_may_be_changed_later(self):
        marks, facts, rows, eyes = [0, 1, 1], ["p"], ["0", "1", "1"], [0, 0, 1]
        split, house = Split(marks), House(facts, rows, a=eyes)
        steps, words, entries, told = [[0]], [["u"]], [("*", "?")], ["-"]
        machine, find = Machine("x", steps, words), notes.Find(LOT, c=entries)
        street, cases, errands = street_of_two(), [0], [("do", "x")]
        street.note("s", "c", told)
        led = bench.Bench(PLAY, never="[b]p", cases=cases)
        bench.attempt(led, errands)
        kept = [parts_of(copy.deepcopy(one)) for one in (split, house, machine, find, street, led)]
        for one in (marks, facts, rows, eyes, steps[0], steps, words[0], words, entries, told, cases, errands):
            spoil(one)
        self.assertEqual([parts_of(one) for one in (split, house, machine, find, street, led)], kept)

    def test_an_integer_below_0_never_counts_from_the_end(self):
        calls = [lambda: Split([0, 1]).cell(-1), lambda: HOUSE.fact_holds(-1, "p"), lambda: truths.holds(TABLE, -1),
                 lambda: PLAY.words("x", "a", -1), lambda: safety.twins(LOT, "p", "b", -1), lambda: ears.ear_machine(LOT, "a", -1),
                 lambda: next(notes.Find(LOT).fitting_rows(-1, 0)), lambda: STREET.unlink(-1), lambda: bench.Bench(PLAY).cut(-1),
                 lambda: bench.Bench(PLAY, cases=[-1]), lambda: bench.Bench(PLAY, limit=-1)]
        for call in calls:
            self.assertRaises(ThinwallError, call)
        self.assertIs(closing.strikes_hold(SHUT, [("s", 0, -1)]), False)
        self.assertIs(closing.strikes_hold(SHUT, [("s", -2, 2)]), False)
        self.assertIs(closing.strikes_hold(SHUT, [("s", 0, 2)]), True)


class Kinds(Checks):
    def test_pairs_and_triples_are_tuples_and_the_rest_are_lists(self):
        self.assertEqual([type(found) for found in (
            LOT.steps()[0], orders.endings(LOT, "x")[0], orders.echoes(LOT, "x"), orders.order_clash(LOT, "x", "y"),
            orders.free_pairs(MUD_LOT), safety.leak(LOT, "p", "b"), safety.best_level(LOT, 0, "a", "p"), STANDS[0], STANDS[0][0],
            closing.strikes(SHUT)[0], closing.rest(SHUT)[0], closing.rest(SHUT)[0][1], closing.refute(SHUT), closing.refute(SHUT)[0],
            closing.refute(SHUT)[2], wishes.firm_break(LOT, "~[b?]p"), plain.slow_fits(PLAY, 0)[0], closing.joint(STREET))],
            [tuple, tuple, tuple, tuple, list, tuple, tuple, tuple, tuple, tuple, tuple, list, tuple, list, list, tuple, tuple, list])

    def test_methods_that_change_something_return_none(self):
        street, led = street_of_two(), bench.Bench(PLAY)
        self.assertEqual([street.add_site("u", MUD), street.tell("s", "y"), street.note("s", "a", ["?"]), street.forget("s"),
                          street.unlink(0), led.do("x"), led.do_all("yx"), led.cut(2), led.undo(), led.redo(), led.change_limit(9)], [None] * 11)


if __name__ == "__main__":
    unittest.main()
