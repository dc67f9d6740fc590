import unittest

from thinwall.errors import BadSaying, UnknownCase, UnknownFact, UnknownPerson
from thinwall.houses import House
from thinwall.ledgers import find_ledger, ledger_holds
from thinwall.reading import read_saying
from thinwall.sayings import And, Common, Fact, Knows, Not, Or, Truth, Whether
from thinwall.splits import Split
from thinwall.tables import Table
from oracles import random_table, reached, true_in
from support import HUGE, Checks, random_saying, source_of

HOUSE = House(["p", "q"], ["00", "01", "10", "11"], a=[0, 0, 1, 1], b=[0, 1, 0, 1], c=[0, 0, 0, 0])
TABLE = Table(HOUSE)


def second_place(part, at):
    return at + 1 + len(part.first.parts())


def cells_for(table, part, case):
    if isinstance(part, Common):
        return [reached(table, part.group, case)]
    return [table.view(letter).cell(case) for letter in part.group]


def is_backed(table, saying, lines, line):
    """Point 25 word by word."""
    case, at, truth = line
    if not (0 <= case < table.house.size and 0 <= at < len(saying.parts())):
        return False
    part = saying.parts()[at]
    if isinstance(part, (Truth, Fact)):
        return true_in(table, case, part) == truth
    if isinstance(part, Not):
        return (case, at + 1, not truth) in lines
    if isinstance(part, (And, Or)):
        first, second = (case, at + 1, truth) in lines, (case, second_place(part, at), truth) in lines
        return first and second if isinstance(part, And) == truth else first or second
    cells = cells_for(table, part, case)
    if isinstance(part, Whether) and truth:
        return all(any(all((other, at + 1, value) in lines for other in cell) for value in (True, False))
                   for cell in cells)
    if isinstance(part, Whether):
        return any(all(any((other, at + 1, value) in lines for other in cell) for value in (True, False))
                   for cell in cells)
    found = [(other, at + 1, truth) in lines for cell in cells for other in cell]
    return all(found) if truth else any(found)


def is_ledger(table, case, saying, truth, ledger):
    return (case, 0, truth) in ledger and all(is_backed(table, saying, ledger, line) for line in ledger)


def wanted_lines(table, saying, case, at):
    """The line of the part in the case and all that it needs, as point 26 chooses them."""
    parts = saying.parts()
    part = parts[at]
    truth = bool(true_in(table, case, part))

    def line_of(other, place):
        return (other, place, bool(true_in(table, other, parts[place])))

    below = []
    if isinstance(part, Not):
        below = [line_of(case, at + 1)]
    elif isinstance(part, (And, Or)):
        below = [line_of(case, at + 1), line_of(case, second_place(part, at))]
        if truth != isinstance(part, And):
            below = [line for line in below if line[2] == truth][:1]
    elif isinstance(part, (Knows, Whether, Common)):
        below = [[line_of(other, at + 1) for other in cell] for cell in cells_for(table, part, case)]
        if isinstance(part, Whether) and not truth:
            mixed = [cell for cell in below if len({line[2] for line in cell}) == 2][0]
            below = [[line for line in mixed if line[2]][0], [line for line in mixed if not line[2]][0]]
        else:
            below = [line for cell in below for line in cell]
            if not isinstance(part, Whether) and not truth:
                below = [line for line in below if not line[2]][:1]
    found = {(case, at, truth)}
    for other, place, _ in below:
        found |= wanted_lines(table, saying, other, place)
    return found


def some_questions(seed, many=200, most=9):
    source = source_of(seed)
    for _ in range(many):
        table = random_table(source, source.randint(1, 6))
        yield source, table, source.randrange(table.house.size), random_saying(source, source.randint(1, most))


class FindingLedgers(Checks):
    def test_the_example(self):
        self.assertEqual(find_ledger(Table(House(["p"], ["0", "1"], a=[0, 1], b=[0, 0])), 1, "[b]p"),
                         [(0, 1, False), (1, 0, False)])

    def test_each_kind_line_by_line(self):
        known = [
            (0, "true", [(0, 0, True)]), (0, "false", [(0, 0, False)]), (2, "p", [(2, 0, True)]),
            (1, "p", [(1, 0, False)]), (1, "~p", [(1, 0, True), (1, 1, False)]),
            (3, "p & q", [(3, 0, True), (3, 1, True), (3, 2, True)]), (0, "p & q", [(0, 0, False), (0, 1, False)]),
            (2, "p & q", [(2, 0, False), (2, 2, False)]), (3, "p | q", [(3, 0, True), (3, 1, True)]),
            (1, "p | q", [(1, 0, True), (1, 2, True)]), (0, "p | q", [(0, 0, False), (0, 1, False), (0, 2, False)]),
            (1, "~p | q", [(1, 0, True), (1, 1, True), (1, 2, False)]),
            (2, "[a]p", [(2, 0, True), (2, 1, True), (3, 1, True)]), (3, "[ab]p", [(1, 1, False), (3, 0, False)]),
            (3, "[ab]q", [(2, 1, False), (3, 0, False)]), (3, "[c]p", [(0, 1, False), (3, 0, False)]),
            (3, "[ab](p | q)", [(1, 1, True), (1, 3, True), (2, 1, True), (2, 2, True), (3, 0, True), (3, 1, True),
                                (3, 2, True)]),
            (0, "[a?]p", [(0, 0, True), (0, 1, False), (1, 1, False)]),
            (1, "[ab?]p", [(1, 0, False), (1, 1, False), (3, 1, True)]),
            (3, "[ab?]q", [(2, 1, False), (3, 0, False), (3, 1, True)]),
            (3, "[c?]p", [(0, 1, False), (2, 1, True), (3, 0, False)]),
            (0, "[ab*]p", [(0, 0, False), (0, 1, False)]), (3, "[ab*]p", [(0, 1, False), (3, 0, False)]),
            (3, "[ab*](p | q)", [(0, 1, False), (0, 2, False), (0, 3, False), (3, 0, False)]),
            (3, "[a*]p", [(2, 1, True), (3, 0, True), (3, 1, True)]),
        ]
        for case, text, ledger in known:
            truth = bool(true_in(TABLE, case, read_saying(text)))
            self.assertEqual(find_ledger(TABLE, case, text), ledger, text)
            self.assertIs(ledger_holds(TABLE, case, text, truth, ledger), True, text)

    def test_the_lines_that_back_each_other_and_nothing_else(self):
        for _, table, case, saying in some_questions(23, 400, 14):
            found = find_ledger(table, case, saying)
            self.assertEqual(found, sorted(wanted_lines(table, saying, case, 0)))
            self.assertTrue(all(isinstance(line, tuple) and isinstance(line[2], bool) for line in found))
            truth = bool(true_in(table, case, saying))
            self.assertIs(ledger_holds(table, case, saying, truth, found), True)
            self.assertIs(ledger_holds(table, case, str(saying), truth, found[::-1] + found), True)
            self.assertIs(ledger_holds(table, case, saying, not truth, found), False)

    def test_long_sayings(self):
        saying = Fact("p")
        for _ in range(120):
            saying = Knows("b", ~~saying)
        ledger = find_ledger(TABLE, 3, saying)
        self.assertEqual(ledger[-1], (3, 0, False))
        self.assertIs(ledger_holds(TABLE, 3, saying, False, ledger), True)


class CheckingLedgers(Checks):
    def test_a_changed_line_is_found(self):
        wrong = right = 0
        for source, table, case, saying in some_questions(24):
            truth = bool(true_in(table, case, saying))
            found = find_ledger(table, case, saying)
            size, parts = table.house.size, len(saying.parts())
            for at, (other, part, value) in enumerate(found):
                rest = found[:at] + found[at + 1:]
                changed = [rest, rest + [(other, part, not value)], found + [(other, part, not value)],
                           rest + [((other + 1) % size, part, value)], rest + [(other, (part + 1) % parts, value)],
                           found + [(source.randrange(size), source.randrange(parts), source.random() < 0.5)]]
                for ledger in changed:
                    source.shuffle(ledger)
                    for claim in (truth, not truth):
                        wanted = is_ledger(table, case, saying, claim, ledger)
                        self.assertIs(ledger_holds(table, case, saying, claim, ledger), wanted)
                        self.assertTrue(claim is truth or not wanted)
                        wrong, right = wrong + (not wanted), right + wanted
        self.assertGreater(wrong, 1000)
        self.assertGreater(right, 100)

    def test_lines_of_nothing(self):
        ledger = find_ledger(TABLE, 3, "[a]p & ~q")
        truth = False
        self.assertIs(ledger_holds(TABLE, 3, "[a]p & ~q", truth, ledger), True)
        for line in ((-1, 2, True), (4, 2, False), (HUGE, 2, True), (0, -1, True), (0, -4, False), (0, 5, True),
                     (0, HUGE, False), (-HUGE, -HUGE, True), (-1, 0, False), (-4, 2, False)):
            for kept in (ledger, []):
                self.assertIs(ledger_holds(TABLE, 3, "[a]p & ~q", truth, kept + [line]), False, line)
        self.assertIs(ledger_holds(TABLE, 0, "p", True, []), False)
        self.assertIs(ledger_holds(TABLE, 0, "p", False, []), False)

    def test_further_lines_do_no_harm_if_they_are_backed(self):
        ledger = [(2, 0, True), (2, 1, True), (3, 1, True)]
        for more in ([(0, 1, False)], [(0, 1, False), (0, 0, False)], [(3, 0, True)], [(1, 0, False), (1, 1, False)]):
            self.assertIs(ledger_holds(TABLE, 2, "[a]p", True, more + ledger + more), True)
        for more in ([(0, 1, True)], [(0, 0, False)], [(0, 0, True)], [(2, 0, False)], [(2, 1, False)]):
            self.assertIs(ledger_holds(TABLE, 2, "[a]p", True, ledger + more), False)

    def test_other_ledgers_than_the_found_one(self):
        self.assertIs(ledger_holds(TABLE, 3, "p | q", True, [(3, 0, True), (3, 2, True)]), True)
        self.assertIs(ledger_holds(TABLE, 3, "[c]p", False, [(3, 0, False), (1, 1, False)]), True)
        self.assertIs(ledger_holds(TABLE, 3, "[c?]p", False, [(3, 0, False), (1, 1, False), (3, 1, True)]), True)
        self.assertIs(ledger_holds(TABLE, 3, "[ab*]p", False, [(3, 0, False), (1, 1, False)]), True)
        self.assertIs(ledger_holds(TABLE, 3, "[ab?]p", False, [(3, 0, False), (1, 1, False), (2, 1, True)]), False)
        self.assertIs(ledger_holds(TABLE, 0, "[ab?]p", True, [(0, 0, True), (0, 1, False), (1, 1, False)]), False)

    def test_the_table_counts_and_not_the_eyes(self):
        table = Table(HOUSE, a=Split.apart(4))
        self.assertEqual(find_ledger(table, 2, "[a]p"), [(2, 0, True), (2, 1, True)])
        self.assertIs(ledger_holds(TABLE, 2, "[a]p", True, [(2, 0, True), (2, 1, True)]), False)


class WrongQuestions(Checks):
    def test_errors_in_their_order(self):
        calls = [lambda table, case, saying: find_ledger(table, case, saying),
                 lambda table, case, saying: ledger_holds(table, case, saying, True, [])]
        good = {"table": TABLE, "case": 0, "saying": "p"}
        for call in calls:
            for saying, wanted in (("[d]p", UnknownPerson("d")), ("x | y", UnknownFact("x")),
                                   ("x & [ade]p", UnknownPerson("d")), ("p &", BadSaying(3)), ("[ba]x", BadSaying(2))):
                for case in (4, -1, HUGE, -HUGE):
                    self.assert_errors_in_order(call, good, ({"saying": saying}, wanted), ({"case": case}, UnknownCase(case)))

    def test_arguments_and_results_stand_alone(self):
        ledger = [(3, 0, True), (3, 1, True), (3, 1, True), (2, 1, True)]
        self.assert_leaves_arguments(ledger_holds, TABLE, 3, "[a]p", True, ledger)
        self.assert_fresh_list(find_ledger, TABLE, 3, "[a]p")
        self.assertEqual(TABLE, Table(HOUSE))


if __name__ == "__main__":
    unittest.main()
