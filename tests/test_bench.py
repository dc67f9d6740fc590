import itertools
import unittest

from thinwall.bench import BENCH_LIMIT, Bench, attempt, trial
from thinwall.errors import (BadCount, BadSaying, NothingToRedo, NothingToUndo, Refused, Spilled, TooLong, TooMany, UnknownCase,
                             UnknownDeed, UnknownFact, UnknownPerson)
from thinwall.lots import Lot
from thinwall.sayings import Fact, Knows, Truth
from thinwall.wishes import shortest
from rows import BIG, CUBE, HUGE_PLAY, MUD, PLAY, Truths, short_lots, tables_behind
from support import HUGE, Checks, random_saying
from test_wishes import Oracle, keywords, random_aims


def state(bench):
    return (bench.row, bench.table, bench.past, bench.future, bench.limit, len(bench))


class Model:
    """A bench by the words of points 64 to 66: plain lists of whole rows."""

    def __init__(self, play, limit, spills):
        self.play, self.limit, self.spills = play, limit, spills
        self.rows, self.at = [""], 0

    def row(self):
        return self.rows[self.at]

    def state(self):
        return (self.row(), self.play.after(self.row()), self.at, len(self.rows) - 1 - self.at, self.limit, len(self.row()))

    def change(self, row):
        self.rows = self.rows[:self.at + 1] + [row]
        self.at += 1

    def longer(self, signs):
        row = self.row()
        for place, sign in enumerate(signs):
            if sign not in self.play.signs or len(sign) != 1:
                raise UnknownDeed(sign, place)
            if len(row) >= self.limit:
                raise TooLong(self.limit)
            row += sign
            if self.spills(self.play.after(row)):
                raise Spilled(self.spills(self.play.after(row))[0])
        return row

    def carry_out(self, kind, given=None):
        if kind == "do":
            self.change(self.longer([given]))
        elif kind == "all":
            row = self.longer(given)
            if given:
                self.change(row)
        elif kind == "cut":
            if not 0 <= given <= len(self.row()):
                raise BadCount(given)
            self.change(self.row()[:given])
        elif kind == "undo":
            if self.at == 0:
                raise NothingToUndo()
            self.at -= 1
        elif kind == "redo":
            if self.at == len(self.rows) - 1:
                raise NothingToRedo()
            self.at += 1
        else:
            if not 0 <= given <= 60:
                raise BadCount(given)
            if len(self.row()) > given:
                raise TooLong(given)
            self.limit = given

    def attempt(self, errands):
        kept = (list(self.rows), self.at, self.limit)
        for index, errand in enumerate(errands):
            try:
                self.carry_out(*errand)
            except ValueError as error:
                self.rows, self.at, self.limit = kept
                raise Refused(index) from error
        return len(errands)


def carry_out(bench, errand):
    """What the method of the kind of the errand does."""
    kind, *given = errand
    method = {"do": bench.do, "all": bench.do_all, "cut": bench.cut, "undo": bench.undo, "redo": bench.redo,
              "limit": bench.change_limit}[kind]
    return method(*given)


def random_errand(source, signs, length):
    kind = source.choice(["do", "do", "do", "all", "all", "cut", "undo", "undo", "redo", "limit"])
    if kind == "do":
        return (kind, source.choice(list(signs) + list(signs) + ["?"]) if source.random() < 0.9 else "")
    if kind == "all":
        return (kind, "".join(source.choice(signs or "?") for _ in range(source.randint(0, 4))) + source.choice(["", "", "", "?"]))
    if kind == "cut":
        return (kind, source.randint(-1, length + 1))
    if kind == "limit":
        return (kind, source.choice([-1, 0, 1, 2, 3, 5, 8, 40, 60, 61]))
    return (kind,)


def same_outcome(checks, call, wanted):
    """Both return None or the same value, or raise errors of the same kind and with the same attributes."""
    outcomes = []
    for one in (call, wanted):
        try:
            outcomes.append(("value", one()))
        except ValueError as error:
            cause = error.__cause__
            outcomes.append((type(error), vars(error), type(cause), vars(cause) if cause else None))
    checks.assertEqual(outcomes[0], outcomes[1])
    return outcomes[0][0]


class Changes(Checks):
    def test_against_plain_lists_of_rows(self):
        truths, seen = Truths(), []
        for source, lot, _ in short_lots(170, 60, 2, 6):
            play = lot.play
            never = random_saying(source, source.randint(1, 4), "".join(play.house.facts()))
            cases = source.choice([None, [], [source.randrange(play.house.size)] * 2, tuple(range(play.house.size))])
            chosen = sorted(set(range(play.house.size) if cases is None else cases))

            def spills(table):
                return [case for case in chosen if truths(table, case, never)]

            limit = source.choice([3, 6, 40])
            if spills(play.start):
                self.assert_error(Spilled(spills(play.start)[0]), Bench, play, never=never, cases=cases)
                continue
            bench, model = Bench(play, never=never, cases=cases, limit=limit), Model(play, limit, spills)
            self.assertEqual(state(bench), model.state())
            for _ in range(40):
                if source.random() < 0.25:
                    errands = [random_errand(source, play.signs, len(bench)) for _ in range(source.randint(0, 4))]
                    seen.append(same_outcome(self, lambda: attempt(bench, errands), lambda: model.attempt(errands)))
                else:
                    errand = random_errand(source, play.signs, len(bench))
                    seen.append(same_outcome(self, lambda: carry_out(bench, errand), lambda: model.carry_out(*errand)))
                self.assertEqual(state(bench), model.state())
            truths.known.clear()
        for kind in ("value", Refused, Spilled, TooLong, BadCount, UnknownDeed, NothingToUndo, NothingToRedo):
            self.assertGreater(seen.count(kind), 10, kind)

    def test_the_beginning(self):
        self.assertEqual(BENCH_LIMIT, 40)
        bench = Bench(PLAY)
        self.assertEqual(state(bench), ("", PLAY.start, 0, 0, 40, 0))
        self.assertIs(bench.play, PLAY)
        for limit in (0, 1, 40, 60):
            self.assertEqual(Bench(PLAY, limit=limit).limit, limit)

    def test_do_cut_undo_redo(self):
        bench = Bench(PLAY)
        for call in (lambda: bench.do("x"), lambda: bench.do_all("yx"), lambda: bench.cut(1), lambda: bench.cut(1), bench.undo,
                     bench.redo, lambda: bench.do_all(""), lambda: bench.change_limit(50)):
            self.assertIsNone(call())
        self.assertEqual(state(bench), ("x", PLAY.after("x"), 4, 0, 50, 1))
        rows = ["x", "xyx", "x", ""]
        for at, row in enumerate(rows):
            bench.undo()
            self.assertEqual(state(bench), (row, PLAY.after(row), 3 - at, at + 1, 50, len(row)))
        self.assert_error(NothingToUndo(), bench.undo)
        for at, row in enumerate(["x", "xyx", "x", "x"]):
            bench.redo()
            self.assertEqual(state(bench), (row, PLAY.after(row), at + 1, 3 - at, 50, len(row)))
        self.assert_error(NothingToRedo(), bench.redo)
        bench.undo()
        bench.undo()
        bench.do("y")
        self.assertEqual(state(bench), ("xyxy", PLAY.after("xy"), 3, 0, 50, 4))
        self.assert_error(NothingToRedo(), bench.redo)

    def test_what_is_no_change_keeps_what_was_taken_back(self):
        bench = Bench(PLAY)
        bench.do_all("xy")
        bench.undo()
        bench.do_all("")
        bench.limit = 7
        bench.change_limit(8)
        for call in (lambda: bench.do("?"), lambda: bench.cut(1), lambda: bench.do_all("x" * 9), bench.undo):
            self.assertRaises(ValueError, call)
        self.assertEqual(state(bench), ("", PLAY.start, 0, 1, 8, 0))
        bench.redo()
        self.assertEqual(state(bench), ("xy", PLAY.after("xy"), 1, 0, 8, 2))
        bench.undo()
        # It is a change also if nothing is cut off.
        bench.cut(0)
        self.assertEqual(state(bench), ("", PLAY.start, 1, 0, 8, 0))

    def test_the_place_of_the_refused_deed(self):
        bench = Bench(PLAY, never="[c?]p", limit=4)
        bench.do("y")
        for row, error in (("xzx", UnknownDeed("z", 1)), ("z", UnknownDeed("z", 0)), ("xxxz", UnknownDeed("z", 3)),
                           ("xxxx", TooLong(4)), ("xxxxz", TooLong(4)), ("xyz", Spilled(0)), ("xxy", Spilled(0)),
                           ("xxxy", TooLong(4)), ("xy", Spilled(0)), ("x y", UnknownDeed(" ", 1)), ("X", UnknownDeed("X", 0))):
            self.assert_error(error, bench.do_all, row)
            self.assertEqual(state(bench), ("y", PLAY.start, 1, 0, 4, 1))
        bench.do_all("xxx")
        self.assert_error(TooLong(4), bench.do_all, "x")
        self.assertIsNone(bench.do_all(""))
        for sign in ("z", "", "xx", "X", "?", "xy"):
            self.assert_error(UnknownDeed(sign, 0), bench.do, sign)
        self.assert_error(TooLong(4), bench.do, "y")

    def test_too_long_is_before_spilled(self):
        bench = Bench(PLAY, never="[c?]p", limit=1)
        bench.do("x")
        self.assert_error(TooLong(1), bench.do, "y")
        bench.limit = 2
        self.assert_error(Spilled(0), bench.do, "y")
        self.assert_error(Spilled(1), Bench(PLAY, never="[c]p", cases=[1, 0]).do_all, "xy")
        self.assert_error(Spilled(1), Bench(PLAY, never="[c?]p", cases=(1, 1)).do_all, "xy")
        self.assertIsNone(Bench(PLAY, never="[c]p", cases=[0]).do_all("xy"))
        self.assertIsNone(Bench(PLAY, never="true", cases=[]).do_all("xy"))

    def test_cut(self):
        bench = Bench(PLAY)
        bench.do_all("xyx")
        for count in (-1, 4, HUGE, -HUGE):
            self.assert_error(BadCount(count), bench.cut, count)
        for count in (3, 2, 0, 0):
            bench.cut(count)
            self.assertEqual((bench.row, bench.table), ("xyx"[:count], PLAY.after("xyx"[:count])))
        self.assertEqual((bench.past, bench.future), (5, 0))


class Limits(Checks):
    def test_none_and_forty_and_sixty(self):
        for limit in (0, 40, 60):
            bench = Bench(PLAY, limit=limit)
            bench.do_all("x" * limit)
            self.assert_error(TooLong(limit), bench.do, "x")
            self.assert_error(TooLong(limit), bench.do_all, "xx")
            self.assertEqual((len(bench), bench.past), (limit, 1 if limit else 0))
            self.assert_error(TooLong(limit), Bench(PLAY, limit=limit).do_all, "x" * (limit + 1))

    def test_both_ways_to_change_it(self):
        def assign(bench, limit):
            bench.limit = limit

        for change in (assign, Bench.change_limit):
            bench = Bench(PLAY)
            bench.do_all("xyx")
            for limit in (-1, 61, HUGE, -HUGE):
                self.assert_error(BadCount(limit), change, bench, limit)
            for limit in (0, 1, 2):
                self.assert_error(TooLong(limit), change, bench, limit)
            self.assertEqual((bench.limit, bench.past, bench.future), (40, 1, 0))
            for limit in (3, 60, 5):
                change(bench, limit)
                self.assertEqual((bench.limit, bench.past, bench.future, bench.row), (limit, 1, 0, "xyx"))
            bench.undo()
            change(bench, 0)
            self.assertEqual((bench.limit, bench.past, bench.future), (0, 0, 1))

    def test_undo_and_redo_do_not_check_it(self):
        bench = Bench(PLAY)
        bench.do_all("xyx")
        bench.cut(1)
        bench.limit = 1
        bench.undo()
        self.assertEqual(state(bench), ("xyx", PLAY.after("xy"), 1, 1, 1, 3))
        self.assert_error(TooLong(1), bench.do, "x")
        self.assert_error(TooLong(2), bench.change_limit, 2)
        bench.undo()
        bench.redo()
        self.assertEqual((bench.row, bench.limit), ("xyx", 1))
        self.assertIsNone(bench.do_all(""))


class Forks(Checks):
    def test_both_ways(self):
        bench = Bench(PLAY, never="[c]p", cases=[1], limit=9)
        bench.do_all("yx")
        bench.do("x")
        bench.undo()
        other = bench.fork()
        self.assertIsInstance(other, Bench)
        self.assertIsNot(other, bench)
        self.assertIs(other.play, PLAY)
        self.assertEqual(state(other), state(bench))
        kept = state(bench)
        other.redo()
        other.limit = 5
        other.cut(0)
        self.assertEqual(state(bench), kept)
        self.assertEqual(state(other), ("", PLAY.start, 3, 0, 5, 0))
        kept = state(other)
        bench.undo()
        bench.do("y")
        self.assertEqual(state(other), kept)
        self.assertEqual(state(bench), ("y", PLAY.start, 1, 0, 9, 1))
        other.do("x")
        for one in (bench.fork(), other.fork().fork()):
            one.cut(0)
            self.assert_error(Spilled(1), one.do_all, "xy")
        self.assertEqual(other.row, "x")


class Advice(Checks):
    def test_against_all_rows(self):
        truths, found = Truths(), []
        for source, lot, behind in short_lots(171, 30, 4, 6):
            for wish, never, cases in random_aims(source, truths, lot, 6):
                given, oracle = keywords(never, cases), Oracle(truths, lot.play.house, wish, never, cases)
                if not oracle.good(lot.play.start):
                    continue
                bench = Bench(lot.play, limit=0, **given)
                self.assertEqual(bench.advice(wish), shortest(lot, wish, **given))
                bench.limit = 40
                for sign in [source.choice(lot.play.signs) for _ in range(3)]:
                    try:
                        bench.do(sign)
                    except Spilled:
                        continue
                    # The rows from here on, one after the other.
                    further = tables_behind(lot.play, bench.table.room, bench.table)
                    wanted = [row for row in oracle.good_rows(further) if oracle.met(further[row])]
                    self.assertEqual(bench.advice(wish), wanted[0] if wanted else None)
                    found.append(len(wanted[0]) if wanted else None)
            truths.known.clear()
        self.assertLessEqual({None, 0, 1}, set(found))

    def test_from_a_row_in_the_middle_and_without_the_limit(self):
        bench = Bench(PLAY, limit=1)
        self.assertEqual(bench.advice("[c?]p"), "xy")
        bench.do("x")
        kept = state(bench)
        self.assertEqual([bench.advice("[c?]p"), bench.advice("[b?]p"), bench.advice("~[b?]p"), bench.advice("[b]p")],
                         ["y", "", None, None])
        self.assertEqual(state(bench), kept)
        bench = Bench(PLAY, never="[c?]p", cases=[1])
        self.assertEqual([bench.advice("[b]p"), bench.advice("[c]p"), bench.advice(Truth(True))], ["x", None, ""])
        self.assertEqual([Bench(PLAY, cases=[]).advice("false"), Bench(PLAY, never="true", cases=()).advice("false")], ["", ""])
        self.assertEqual(Bench(MUD, limit=0).advice("[a?]p & [b?]q & [c?]r"), "vv")
        self.assertEqual(Bench(CUBE, limit=3).advice("[a](p & q & r & s & t & u) | ~p | ~q | ~r | ~s | ~t | ~u"), "abcdef")

    def test_more_tables_than_a_lot_has(self):
        self.assert_error(TooMany(300), Lot, BIG)
        lot = Lot(BIG, most=1000)
        self.assertIsNone(Bench(BIG).advice("false"))
        for wish in ("[b?](p & q)", "[abc?]q", "[a?]p & [b?]r", "[c?](p | q | r)"):
            for case in (0, 3, 5):
                self.assertEqual(Bench(BIG, limit=0, cases=[case]).advice(wish), shortest(lot, wish, cases=[case]))
        # It stops at the first table where the wish is true.
        self.assertEqual(Bench(HUGE_PLAY).advice("true"), "")


class Attempts(Checks):
    def test_each_kind(self):
        bench = Bench(PLAY)
        self.assertEqual(attempt(bench, [("do", "x"), ("all", "yx"), ("cut", 1), ("undo",), ("redo",), ("limit", 7), ("all", "")]), 7)
        self.assertEqual(state(bench), ("x", PLAY.after("x"), 3, 0, 7, 1))
        self.assertEqual(attempt(bench, []), 0)
        # An undo takes back a change from before the call, too.
        self.assertEqual(attempt(bench, [("undo",), ("undo",), ("undo",)]), 3)
        self.assertEqual(state(bench), ("", PLAY.start, 0, 3, 7, 0))
        self.assertEqual(attempt(bench, [("redo",), ("limit", 1)]), 2)
        self.assertEqual(state(bench), ("x", PLAY.after("x"), 1, 2, 1, 1))

    def test_refused_at_each_place(self):
        refused = [(("do", "q"), UnknownDeed("q", 0)), (("do", "xy"), UnknownDeed("xy", 0)), (("do", "y"), Spilled(0)),
                   (("all", "xq"), UnknownDeed("q", 1)), (("all", "x" * 41), TooLong(40)), (("all", "xxy"), Spilled(0)),
                   (("cut", 9), BadCount(9)), (("limit", 61), BadCount(61)), (("limit", 0), TooLong(0)), (("redo",), NothingToRedo())]
        for (errand, cause), index in itertools.product(refused, range(4)):
            bench = Bench(PLAY, never="[c?]p")
            bench.do("x")
            bench.do("x")
            bench.undo()
            kept = state(bench)
            errands = [("do", "x"), ("limit", 50), ("limit", 40)][:index] + [errand, ("do", "?"), ("undo",)]
            if index == 2 and cause.__class__ is TooLong and errand[0] == "all":
                errands[1] = ("limit", 40)
            if index == 0 and errand == ("redo",):
                errands, index = [("redo",)] + errands, 1
            with self.assertRaises(Refused) as caught:
                attempt(bench, errands)
            self.assertEqual(vars(caught.exception), {"index": index})
            error = caught.exception.__cause__
            self.assertEqual((type(error), vars(error)), (type(cause), vars(cause)))
            self.assertEqual(state(bench), kept)
            bench.redo()
            self.assertEqual(bench.row, "xx")

    def test_nothing_to_undo(self):
        bench = Bench(PLAY)
        bench.do("x")
        for errands, index in (([("undo",), ("undo",), ("do", "y")], 1), ([("limit", 4), ("do", "y"), ("undo",), ("undo",), ("undo",)], 4)):
            with self.assertRaises(Refused) as caught:
                attempt(bench, errands)
            self.assertEqual(caught.exception.index, index)
            self.assertIsInstance(caught.exception.__cause__, NothingToUndo)
            self.assertEqual(state(bench), ("x", PLAY.after("x"), 1, 0, 40, 1))

    def test_the_errands_are_not_changed(self):
        bench, errands = Bench(PLAY), [("do", "x"), ("undo",)]
        self.assertEqual((attempt(bench, errands), errands), (2, [("do", "x"), ("undo",)]))


class Trials(Checks):
    def prepared(self):
        bench = Bench(PLAY, limit=5)
        bench.do_all("xy")
        bench.cut(1)
        bench.undo()
        return bench

    def test_what_returns(self):
        bench = self.prepared()
        kept = state(bench)

        def action(one):
            self.assertIs(one, bench)
            one.limit = 50
            one.redo()
            one.do_all("yy")
            one.undo()
            one.cut(0)
            return (one.row, one.past, one.limit)

        self.assertEqual(trial(bench, action), ("", 3, 50))
        self.assertEqual(state(bench), kept)
        bench.redo()
        self.assertEqual(bench.row, "x")
        self.assertIsNone(trial(bench, lambda one: one.do("y")))
        self.assertEqual(bench.row, "x")

    def test_what_raises_errors(self):
        for error in (Spilled(7), TooLong(3), KeyError("k"), RuntimeError("r"), KeyboardInterrupt(), SystemExit(), GeneratorExit()):
            bench = self.prepared()
            kept = state(bench)

            def action(one):
                one.do("y")
                one.limit = 9
                raise error

            with self.assertRaises(type(error)) as caught:
                trial(bench, action)
            self.assertIs(caught.exception, error)
            self.assertEqual(state(bench), kept)
        bench = self.prepared()
        kept = state(bench)
        self.assert_error(UnknownDeed("?", 0), trial, bench, lambda one: (one.do("x"), one.do("?")))
        self.assertEqual(state(bench), kept)

    def test_an_attempt_and_a_trial_within_a_trial(self):
        bench = self.prepared()
        kept = state(bench)

        def inner(one):
            one.do("x")
            return one.row

        def outer(one):
            one.do("y")
            rows = [trial(one, inner), one.row]
            rows.append(attempt(one, [("do", "x"), ("limit", 9)]))
            with self.assertRaises(Refused):
                attempt(one, [("do", "x"), ("cut", 99)])
            with self.assertRaises(ZeroDivisionError):
                trial(one, lambda two: (two.cut(0), 1 // 0))
            return rows + [one.row, one.past, one.limit]

        self.assertEqual(trial(bench, outer), ["xyyx", "xyy", 2, "xyyx", 3, 9])
        self.assertEqual(state(bench), kept)

    def test_a_fork_outlives_the_trial(self):
        bench = self.prepared()

        def action(one):
            one.do("y")
            return one.fork()

        other = trial(bench, action)
        self.assertEqual([other.row, bench.row, other.past, other.future], ["xyy", "xy", 2, 0])


class Errors(Checks):
    def test_of_the_bench(self):
        good = {"play": PLAY, "never": "false", "cases": [0, 1], "limit": 3}
        for cases, case in (([0, 2], 2), ((-1, 5), -1), ([HUGE], HUGE)):
            for never, error in (("[d]q", UnknownPerson("d")), ("q & p", UnknownFact("q")), (Knows("h", Fact("p")), UnknownPerson("h"))):
                for limit in (-1, 61, HUGE, -HUGE):
                    self.assert_errors_in_order(Bench, good, ({"cases": cases}, UnknownCase(case)), ({"never": never}, error),
                                                ({"limit": limit}, BadCount(limit)))
            self.assert_errors_in_order(Bench, good, ({"never": "p p"}, BadSaying(2)), ({"cases": cases}, UnknownCase(case)),
                                        ({"limit": 61}, BadCount(61)))
        self.assert_errors_in_order(Bench, good, ({"limit": 77}, BadCount(77)), ({"never": "[a?]p"}, Spilled(0)))
        self.assert_error(Spilled(1), Bench, PLAY, never="p")
        self.assert_error(Spilled(1), Bench, PLAY, never="p", cases=(1, 0, 1))
        self.assertEqual(Bench(PLAY, never="p", cases=[0, 0]).row, "")
        self.assertEqual(Bench(PLAY, never="true", cases=[]).row, "")
        self.assert_error(UnknownFact("q"), Bench, PLAY, never="q", cases=[])

    def test_of_advice(self):
        bench = Bench(PLAY)
        for wish, error in (("p |", BadSaying(3)), ("[d]q", UnknownPerson("d")), ("q", UnknownFact("q"))):
            self.assert_error(error, bench.advice, wish)
        self.assert_error(UnknownFact("q"), Bench(PLAY, cases=[]).advice, "q")

    def test_the_cases_are_copied(self):
        cases = [1, 0, 1]
        bench = Bench(PLAY, never="[c]p", cases=cases)
        self.assertEqual(cases, [1, 0, 1])
        cases.clear()
        self.assert_error(Spilled(1), bench.do_all, "xy")


if __name__ == "__main__":
    unittest.main()
