import copy
import itertools
import unittest

from thinwall.errors import BadNotes, BadSaying, UnknownCase, UnknownFact, UnknownPerson
from thinwall.lots import Lot
from thinwall.notes import Find, stands_hold
from thinwall.plain import slow_fits
from thinwall.plays import Play
from thinwall.sayings import Fact, Knows, Truth, Whether
from rows import CUBE, HOUSE, LOT, MUD, PLAY, Truths, first_names, ordered_names, short_lots, tables_behind
from support import HUGE, Checks, random_saying
from telling import rows_up_to

MUD_LOT = Lot(MUD)
EMPTY_PLAY_LOT = Lot(Play(HOUSE))


def fits_entries(entries, deeds):
    """Whether the deeds, as pairs of a sign and a word, can be cut into parts for the entries, read off point 57."""
    if not entries:
        return not deeds
    (which, word), rest = entries[0], entries[1:]
    for many in (range(len(deeds) + 1) if which == "*" else (1,)):
        part = deeds[:many]
        if len(part) == many and all(which in (sign, "?", "*") and word in (heard, "?") for sign, heard in part):
            if fits_entries(rest, deeds[many:]):
                return True
    return False


class Heard:
    """What listeners hear of rows, each deed in each table asked once."""

    def __init__(self, play, behind):
        self.play, self.behind, self.known = play, behind, {}

    def deeds(self, row, letter, case):
        """The pairs of a sign and the word that the listener hears."""
        return [(sign, self.word(self.behind[row[:at]], sign, letter, case)) for at, sign in enumerate(row)]

    def word(self, table, sign, letter, case):
        place = (id(table), sign, letter)
        if place not in self.known:
            self.known[place] = self.play.deed(sign).heard(table, letter)
        return self.known[place][case]


def random_notes(source, heard, signs, rows, most):
    """Notes of some people: often of a row that was done, sometimes not quite; at most so many entries in all."""
    letters = source.sample("abc", source.choice([0, 1, 1, 2, 2, 3]))
    row, case = source.choice(rows), source.randrange(heard.play.house.size)
    notes = {}
    for letter in letters:
        entries = []
        for sign, word in heard.deeds(row, letter, case):
            kind = source.random()
            which = sign if kind < 0.4 else "?" if kind < 0.6 else "*"
            entries.append((which, word if source.random() < 0.7 else "?"))
        for at in range(len(entries) - 1, 0, -1):
            if entries[at] == entries[at - 1] and entries[at][0] == "*":
                del entries[at]
        if source.random() < 0.3:
            entries.insert(source.randint(0, len(entries)), source.choice([("*", "?"), ("*", "-"), ("?", "?"), ("*", "yes")]))
        if source.random() < 0.15 and signs:
            entries.append((source.choice(signs), source.choice(["yes", "no", "unsure", "-", "?", "hm"])))
        notes[letter] = entries
    while sum(len(entries) for entries in notes.values()) > most:
        longest = max(notes.values(), key=len)
        del longest[source.randrange(len(longest))]
    return notes


def some_finds(seed, lots, many, room=3, most=4):
    """Lots with little room, notes, and all pairs of a row and a case that fit, in their order.

    A deed that changes no table and uses up no entry can be left out, so each stand is
    reached by a row of at most as many deeds as there are room and entries.
    """
    for source, lot, _ in short_lots(seed, lots, 2, room):
        play = lot.play
        behind = tables_behind(play, play.start.room + most)
        heard = Heard(play, behind)
        for _ in range(many):
            notes = random_notes(source, heard, play.signs, [row for row in behind if len(row) <= 3], most)
            fits = [(row, case) for row in behind for case in range(play.house.size) if all(
                fits_entries(entries, heard.deeds(row, letter, case)) for letter, entries in notes.items())]
            yield source, lot, behind, notes, fits


def moves_by_words(lot, notes, stand):
    """The stands that moves lead to, read off point 59."""
    used, name, case = stand
    letters = sorted(notes)
    entries = [notes[letter] for letter in letters]
    behind = [entries[at][many] if many < len(entries[at]) else None for at, many in enumerate(used)]
    found = [(used[:at] + (many + 1,) + used[at + 1:], name, case) for at, many in enumerate(used)
             if behind[at] is not None and behind[at][0] == "*"]
    table = lot.after(name)
    for sign in lot.play.signs:
        deed, numbers = lot.play.deed(sign), []
        for letter, entry, many in zip(letters, behind, used):
            if entry is None or entry[0] not in (sign, "?", "*") or entry[1] not in ("?", deed.heard(table, letter)[case]):
                break
            numbers.append(many if entry[0] == "*" else many + 1)
        else:
            found.append((tuple(numbers), lot.least(name + sign), case))
    return found


def stands_by_words(lot, notes):
    """All stands that moves lead to, in their order."""
    found = [(tuple(0 for _ in notes), "", case) for case in range(lot.play.house.size)]
    for stand in found:
        found += [one for one in dict.fromkeys(moves_by_words(lot, notes, stand)) if one not in found]
    order = lot.names()
    return sorted(found, key=lambda stand: (stand[0], order.index(stand[1]), stand[2]))


def is_stand_paper(lot, truths, saying, paper, notes):
    """Whether the stands are a paper, read off point 59."""
    lengths = [len(notes[letter]) for letter in sorted(notes)]
    for used, name, case in paper:
        if len(used) != len(lengths) or not all(0 <= many <= length for many, length in zip(used, lengths)):
            return False
        if name not in lot.names() or not 0 <= case < lot.play.house.size:
            return False
    if not all((tuple(0 for _ in notes), "", case) in paper for case in range(lot.play.house.size)):
        return False
    for stand in paper:
        if not all(one in paper for one in moves_by_words(lot, notes, stand)):
            return False
        if list(stand[0]) == lengths and not truths(lot.after(stand[1]), stand[2], saying):
            return False
    return True


def changed_stands(source, lot, paper):
    """Papers that differ a little from this one."""
    yield paper[::-1] + paper[:3]
    for at in sorted(source.sample(range(len(paper)), min(12, len(paper)))):
        yield paper[:at] + paper[at + 1:]
    at = source.randrange(len(paper))
    used, name, case = paper[at]
    others = [(used + (0,), name, case), (used, name + "x", case), (used, "-", case), (used, name, -1), (used, name, HUGE),
              (used, name, lot.play.house.size), (used, source.choice(lot.names()), case)]
    if used:
        others += [(used[1:], name, case), ((-1,) + used[1:], name, case), ((9,) + used[1:], name, case),
                   ((HUGE,) + used[1:], name, case), (used[:-1] + (used[-1] + 1,), name, case),
                   (used[:-1] + (used[-1] - 1,), name, case)]
    for other in others:
        yield paper[:at] + [other] + paper[at + 1:]
        yield paper + [other]
    # A stand that no row leads to, with all that moves lead to from it.
    yield paper + [(used, lot.last_names()[-1], case)]


class Fitting(Checks):
    def test_against_all_rows(self):
        truths, kinds = Truths(), []
        finds = itertools.chain(some_finds(140, 16, 12, 3, 3), some_finds(142, 3, 10, 2, 5))
        for source, lot, behind, notes, fits in finds:
            find, names = Find(lot, **notes), first_names(behind)
            self.assertEqual(find.cases(), sorted({case for _, case in fits}))
            self.assertEqual(find.first_fit(), fits[0] if fits else None)
            order = list(names.values())
            self.assertEqual(find.ends(), sorted({(names[behind[row].key], case) for row, case in fits},
                                                 key=lambda pair: (order.index(pair[0]), pair[1])))
            for _ in range(3):
                saying = random_saying(source, source.randint(1, 3), "".join(lot.play.house.facts()))
                if source.random() < 0.5:
                    saying = source.choice([Knows, Whether])(source.choice("abc"), Fact(lot.play.house.facts()[0]))
                wrong = [(row, case) for row, case in fits if not truths(behind[row], case, saying)]
                self.assertEqual(find.against(saying), wrong[0] if wrong else None)
                self.assertEqual(find.against(str(saying)), wrong[0] if wrong else None)
                kinds.append((len(notes), len(fits) > 0, len(wrong[0][0]) if wrong else None))
            for length in range(5):
                case = source.randrange(lot.play.house.size)
                self.assertEqual(list(find.fitting_rows(case, length)), [row for row, one in fits
                                                                        if one == case and len(row) == length])
            truths.known.clear()
        for many in range(4):
            self.assertIn((many, True, None), kinds)
        for length in (None, 0, 1, 2):
            self.assertIn((1, True, length), kinds)
        self.assertIn((2, False, None), kinds)

    def test_the_example(self):
        find = Find(LOT, c=[("*", "-"), ("y", "yes")])
        self.assertEqual([find.cases(), find.first_fit(), list(find.fitting_rows(1, 3)), find.against("[b]p")],
                         [[1], ("xy", 1), ["xxy"], None])
        self.assertEqual(find.ends(), [("xy", 1)])
        self.assertEqual(find.against("[c]~p"), ("xy", 1))

    def test_no_listeners(self):
        find = Find(LOT)
        self.assertEqual([find.cases(), find.first_fit(), len(find.ends())], [[0, 1], ("", 0), 6])
        self.assertEqual([find.against("p"), find.against("p | [c?]p"), find.against("p | ~p")], [("", 0), ("", 0), None])
        self.assertEqual(find.against("~[c?]p"), ("xy", 0))
        self.assertEqual(find.stands(), [((), name, case) for name in LOT.names() for case in (0, 1)])
        self.assertEqual(list(find.fitting_rows(0, 3)), rows_up_to("xy", 3)[7:])
        self.assertEqual(list(Find(EMPTY_PLAY_LOT).fitting_rows(0, 0)), [""])
        self.assertEqual(list(Find(EMPTY_PLAY_LOT).fitting_rows(0, 1)), [])

    def test_no_entries(self):
        # Notes without entries fit the empty row alone, whatever the others have noted.
        find = Find(LOT, b=[])
        self.assertEqual([find.cases(), find.first_fit(), find.ends()], [[0, 1], ("", 0), [("", 0), ("", 1)]])
        self.assertEqual([list(find.fitting_rows(1, length)) for length in (0, 1, 40)], [[""], [], []])
        self.assertEqual(find.stands(), [((0,), "", 0), ((0,), "", 1)])
        self.assertEqual(Find(LOT, b=[], c=[("*", "?")]).ends(), [("", 0), ("", 1)])
        find = Find(LOT, b=[], c=[("?", "?")])
        self.assertEqual([find.cases(), find.first_fit(), find.ends(), find.against("false")], [[], None, [], None])
        self.assertIs(stands_hold(LOT, "false", find.stands(), b=[], c=[("?", "?")]), True)

    def test_kinds_of_entries(self):
        for entries, first, cases in (
                ([("x", "-")], "x", [0, 1]), ([("x", "?")], "x", [0, 1]), ([("y", "unsure")], "y", [0, 1]),
                ([("?", "-"), ("?", "yes")], "xy", [1]), ([("?", "-"), ("?", "no")], "xy", [0]), ([("y", "yes")], None, []),
                ([("*", "unsure"), ("*", "-"), ("*", "yes")], "", [0, 1]),
                ([("*", "unsure"), ("*", "-"), ("*", "?"), ("?", "no")], "xy", [0]),
                ([("?", "unsure"), ("*", "?"), ("y", "yes"), ("*", "?")], "yxy", [1]),
                ([("*", "?"), ("*", "?"), ("x", "?"), ("*", "?")], "x", [0, 1]), ([("y", "-")], None, []),
                ([("?", "?"), ("?", "?"), ("?", "?"), ("x", "?")], "xxxx", [0, 1]), ([("*", "?"), ("y", "hm")], None, [])):
            find = Find(LOT, c=entries)
            self.assertEqual(find.cases(), cases, entries)
            self.assertEqual(find.first_fit(), None if first is None else (first, cases[0]), entries)

    def test_the_row_is_the_same_for_all_listeners(self):
        self.assertEqual(Find(LOT, b=[("x", "?")], c=[("y", "?")]).first_fit(), None)
        self.assertEqual(Find(LOT, b=[("x", "yes"), ("*", "?")], c=[("*", "?"), ("y", "?")]).first_fit(), ("xy", 1))
        find = Find(MUD_LOT, a=[("?", "no"), ("*", "?"), ("v", "yes")], b=[("v", "?"), ("*", "?")], c=[("*", "no"), ("?", "yes")])
        row, case = find.first_fit()
        self.assertEqual(row, "vv")
        self.assertIn((row, case), slow_fits(MUD, 3, a=[("?", "no"), ("*", "?"), ("v", "yes")],
                                             b=[("v", "?"), ("*", "?")], c=[("*", "no"), ("?", "yes")]))

    def test_long_rows(self):
        find = Find(LOT, c=[("*", "-"), ("y", "yes")])
        self.assertEqual(list(find.fitting_rows(1, 40)), ["x" * 39 + "y"])
        self.assertEqual(list(find.fitting_rows(0, 40)), [])
        self.assertEqual(list(Find(LOT, b=[("*", "?")], c=[("x", "?")] * 8).fitting_rows(0, 8)), ["x" * 8])
        # All beginnings could go on, but none of the many rows ends well.
        self.assertEqual(list(Find(LOT, c=[("*", "?"), ("y", "hm")]).fitting_rows(0, 40)), [])
        self.assertEqual(list(Find(LOT, c=[("*", "?"), ("y", "unsure")]).fitting_rows(0, 40)), ["y" * 40])
        self.assertEqual(list(Find(Lot(CUBE), a=[("*", "?"), ("a", "hm")]).fitting_rows(6, 40)), [])

    def test_one_row_after_the_other(self):
        for find, case in ((Find(LOT), 0), (Find(LOT, c=[("*", "?")]), 1), (Find(LOT, b=[("*", "?"), ("?", "?"), ("*", "?")]), 0)):
            rows = find.fitting_rows(case, 40)
            self.assertEqual([next(rows) for _ in range(3)], ["x" * 40, "x" * 39 + "y", "x" * 38 + "yx"])
        rows = Find(LOT, c=[("*", "?"), ("?", "no")]).fitting_rows(0, 40)
        self.assertEqual([next(rows) for _ in range(2)], ["x" * 39 + "y", "x" * 38 + "yy"])
        rows = Find(Lot(CUBE), a=[("*", "?")] * 8).fitting_rows(0, 40)
        self.assertEqual(next(rows), "a" * 40)

    def test_the_greatest_notes(self):
        entries = [("*", "?"), ("?", "?")] * 4
        lot = Lot(CUBE.within(CUBE.house))
        find = Find(lot, a=entries)
        self.assertEqual(find.first_fit(), ("aaaa", 0))
        notes = {letter: [("*", "?"), ("?", "?"), ("*", "yes"), ("*", "no")] * 2 for letter in "abc"}
        find = Find(MUD_LOT, **notes)
        self.assertEqual(find.first_fit(), ("vv", 0))
        self.assertEqual(find.cases(), list(range(7)))
        self.assertGreater(len(find.stands()), 1000)
        self.assertIs(stands_hold(MUD_LOT, "p | q | r", find.stands(), **notes), True)


class Stands(Checks):
    def test_against_their_words(self):
        truths, held = Truths(), []
        for source, lot, behind, notes, fits in some_finds(141, 16, 8, 3, 3):
            find = Find(lot, **notes)
            stands = find.stands()
            self.assertEqual(stands, stands_by_words(lot, notes))
            lengths = tuple(len(notes[letter]) for letter in sorted(notes))
            self.assertEqual([(name, case) for used, name, case in stands if used == lengths], find.ends())
            saying = source.choice([Truth(True), random_saying(source, 2, "".join(lot.play.house.facts()))])
            self.assertIs(stands_hold(lot, saying, stands, **notes), find.against(saying) is None)
            for changed in changed_stands(source, lot, stands):
                wanted = is_stand_paper(lot, truths, saying, changed, notes)
                self.assertIs(stands_hold(lot, saying, changed, **notes), wanted, changed)
                held.append(wanted)
            truths.known.clear()
        self.assertGreater(held.count(True), 40)
        self.assertGreater(held.count(False), 400)

    def test_a_stand_that_no_row_leads_to(self):
        notes = {"c": [("*", "-"), ("y", "yes")]}
        stands = Find(LOT, **notes).stands()
        self.assertEqual(stands, [((0,), "", 0), ((0,), "", 1), ((0,), "x", 0), ((0,), "x", 1), ((1,), "", 0), ((1,), "", 1),
                                  ((1,), "x", 0), ((1,), "x", 1), ((2,), "xy", 1)])
        self.assertIs(stands_hold(LOT, "[b]p", stands, **notes), True)
        self.assertIs(stands_hold(LOT, "[b]p", stands + [((2,), "xy", 0)], **notes), False)
        self.assertIs(stands_hold(LOT, "[c?]p", stands + [((2,), "xy", 0)], **notes), True)
        self.assertIs(stands_hold(LOT, "[c?]p", stands + [((2,), "x", 0)], **notes), False)
        self.assertIs(stands_hold(LOT, "[b?]p", stands + [((2,), "x", 0)], **notes), True)
        self.assertIs(stands_hold(LOT, "[c]p", stands, **notes), True)
        self.assertIs(stands_hold(LOT, "~p", stands, **notes), False)
        self.assertIs(stands_hold(LOT, "true", stands[1:], **notes), False)
        self.assertIs(stands_hold(LOT, "true", [], **notes), False)
        self.assertIs(stands_hold(LOT, "true", []), False)
        self.assertIs(stands_hold(LOT, "p | ~p", Find(LOT).stands()), True)
        self.assertIs(stands_hold(LOT, "~[c]p", Find(LOT).stands()), False)


class Errors(Checks):
    def test_of_find(self):
        good = {"lot": LOT, "b": [("x", "yes")], "c": []}
        for which in ("z", "", "xy", "X", "**", "??", "yx", "-", "*?"):
            self.assert_errors_in_order(Find, good, ({"d": []}, UnknownPerson("d")), ({"b": [(which, "yes")]}, BadNotes("b", 0)),
                                        ({"c": [("*", "-"), ("y", "?"), (which, "?"), ("q", "")]}, BadNotes("c", 2)))
        self.assert_errors_in_order(Find, good, ({"ab": [("z", "")]}, UnknownPerson("ab")), ({"d": []}, UnknownPerson("d")),
                                    ({"z": []}, UnknownPerson("z")), ({"a": [("z", "")]}, BadNotes("a", 0)),
                                    ({"b": [("w", "")]}, BadNotes("b", 0)))
        self.assertEqual(Find(LOT, b=[("x", "no such word")]).cases(), [])

    def test_of_sayings(self):
        find = Find(LOT, c=[("*", "-")])
        for saying, error in (("p &", BadSaying(3)), ("[dh]q", UnknownPerson("d")), ("[c]q & r", UnknownFact("q")),
                              (Knows("d", Fact("q")), UnknownPerson("d"))):
            self.assert_errors_in_order(find.against, {"saying": "p"}, ({"saying": saying}, error))
        good = {"lot": LOT, "saying": "p", "paper": [], "c": [("*", "-")]}
        for saying, error in (("[d]p", UnknownPerson("d")), ("s", UnknownFact("s"))):
            self.assert_errors_in_order(stands_hold, good, ({"e": []}, UnknownPerson("e")), ({"c": [("w", "?")]}, BadNotes("c", 0)),
                                        ({"saying": saying}, error))
        self.assert_errors_in_order(stands_hold, good, ({"saying": "~"}, BadSaying(1)), ({"e": []}, UnknownPerson("e")),
                                    ({"c": [("w", "?")]}, BadNotes("c", 0)))
        # The saying is checked whether or not a stand is wrong.
        self.assert_error(UnknownFact("s"), stands_hold, LOT, "s", [((7,), "q", 9)], c=[("*", "-")])

    def test_when_the_iteration_begins(self):
        find = Find(LOT, c=[("*", "-")])
        for case in (-1, 2, HUGE, -HUGE):
            rows = find.fitting_rows(case, 3)
            self.assert_error(UnknownCase(case), next, rows)
        self.assertEqual([list(find.fitting_rows(0, length)) for length in (-1, -40)], [[], []])


class NothingChanges(Checks):
    def test_the_lists_are_copied(self):
        entries = [("*", "-"), ("y", "yes")]
        notes = {"c": entries}
        find = Find(LOT, **notes)
        self.assertEqual(notes, {"c": [("*", "-"), ("y", "yes")]})
        kept = [find.cases(), find.first_fit(), find.ends(), find.stands(), find.against("p"), list(find.fitting_rows(1, 4))]
        entries.clear()
        notes["b"] = [("z", "")]
        again = [find.cases(), find.first_fit(), find.ends(), find.stands(), find.against("p"), list(find.fitting_rows(1, 4))]
        self.assertEqual(again, kept)
        for method in (find.cases, find.ends, find.stands):
            self.assert_fresh_list(method)

    def test_no_call_changes_anything(self):
        find = Find(MUD_LOT, a=[("*", "?"), ("v", "yes")], c=[("*", "no"), ("*", "?")])
        kept = copy.deepcopy([vars(find._listeners)["_moves"], find._found])
        stands = find.stands()
        paper = list(stands)
        find.cases(), find.first_fit(), find.ends(), find.against("[a]p"), list(find.fitting_rows(3, 4))
        self.assertIsInstance(stands_hold(MUD_LOT, "p", stands, a=[("*", "?"), ("v", "yes")], c=[("*", "no"), ("*", "?")]), bool)
        self.assertEqual(stands, paper)
        self.assertEqual([vars(find._listeners)["_moves"], find._found], kept)

    def test_a_beginning_is_as_good_as_another_one(self):
        # The same find gives the same rows twice, also side by side.
        find = Find(LOT, b=[("*", "?"), ("?", "?")])
        pairs = list(zip(find.fitting_rows(0, 4), find.fitting_rows(0, 4)))
        self.assertEqual(pairs, [(row, row) for row in rows_up_to("xy", 4) if len(row) == 4])


class TheStandsAreThose(Checks):
    def test_each_stand_of_a_larger_find(self):
        notes = {"a": [("?", "?"), ("*", "?"), ("?", "yes"), ("*", "-")], "b": [("*", "?"), ("v", "?"), ("*", "no")],
                 "c": [("*", "?")]}
        self.assertEqual(Find(MUD_LOT, **notes).stands(), stands_by_words(MUD_LOT, notes))
        orders = list(itertools.permutations("ca"))
        for letters in orders:
            given = {letter: notes[letter] for letter in letters}
            self.assertEqual(Find(MUD_LOT, **given).stands(), stands_by_words(MUD_LOT, given))
        self.assertEqual(ordered_names(tables_behind(MUD, 3)), MUD_LOT.names())
        self.assertEqual(PLAY, LOT.play)


if __name__ == "__main__":
    unittest.main()
