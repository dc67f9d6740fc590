import itertools
import random
import unittest

from thinwall.closing import joint, refute, rest, settled, strikes, strikes_hold, sure, tree_holds
from thinwall.errors import BadSaying, NoChoice, UnknownFact, UnknownPerson, UnknownSite
from thinwall.houses import House
from thinwall.plays import Play
from thinwall.sayings import Fact, Knows, Not
from thinwall.streets import Street
from oracles import true_in
from roads import Told, holds_in_turn, is_tree, site_saying, some_streets, struck, tree_by_words
from rows import PLAY
from support import HUGE, Checks, source_of

COIN = Play(House(["p"], ["0", "1"], a=[0, 0]))
# One fact for each of four colours.
COLOURS = Play(House(list("klmn"), ["1000", "0100", "0010", "0001"], a=[0, 0, 0, 0]), x="look a: k")


def street_of(play, names, links):
    street = Street()
    for name in names:
        street.add_site(name, play)
    for link in links:
        street.link(*link)
    return street


def different(names, colours="klmn"):
    """Links which say that no two of the sites have the same colour."""
    return [(first, colour, second, f"~{colour}") for first, second in itertools.combinations(names, 2) for colour in colours]


# Each site brings the opposite for the next one, and there are three of them.
RING = street_of(COIN, "rst", [link for first, second in ("rs", "st", "tr") for link in (
    (first, "p", second, "~p"), (first, "~p", second, "p"))])


class JointChoices(Checks):
    def test_against_going_through_all_choices(self):
        many = []
        for source, told in some_streets(160, 250):
            street, choices, names = told.street, told.joint_choices(), told.names()
            self.assertEqual(joint(street), choices[0] if choices else None)
            many.append(min(len(choices), 3))
            for name in names:
                saying = site_saying(source)
                place, table = names.index(name), told.table(name)
                wrong = [choice for choice in choices if not true_in(table, choice[place], saying)]
                self.assertEqual(sure(street, name, saying), wrong[0] if wrong else None)
                self.assertEqual(sure(street, name, str(saying)), wrong[0] if wrong else None)
            if not choices:
                self.assert_error(NoChoice(), settled, street)
                continue
            self.assertEqual(settled(street), [
                (name, fact, told.plays[name].house.fact_holds(choices[0][at], fact))
                for at, name in enumerate(names) for fact in told.plays[name].house.facts()
                if len({told.plays[name].house.fact_holds(choice[at], fact) for choice in choices}) == 1])
        self.assertGreater(min(many.count(kind) for kind in range(4)), 5)

    def test_no_sites(self):
        self.assertEqual([joint(Street()), settled(Street()), refute(Street()), strikes(Street()), rest(Street())],
                         [[], [], None, [], []])
        self.assert_error(UnknownSite("s"), sure, Street(), "s", "true")
        self.assertIs(strikes_hold(Street(), []), True)
        self.assertIs(tree_holds(Street(), ([], "s", [])), False)

    def test_by_hand(self):
        self.assertIsNone(joint(RING))
        self.assertIsNone(sure(RING, "s", "false"))
        self.assert_error(NoChoice(), settled, RING)
        street = street_of(COIN, "ts", [("t", "p", "s", "~p"), ("t", "~p", "s", "p")])
        self.assertEqual(joint(street), [0, 1])
        self.assertEqual([sure(street, "s", "p"), sure(street, "s", "~p"), sure(street, "t", "true")], [[0, 1], [1, 0], None])
        self.assertEqual(settled(street), [])
        street.link("s", "true", "s", "p")
        self.assertEqual([joint(street), sure(street, "t", "~p"), settled(street)], [[1, 0], None, [("s", "p", True), ("t", "p", False)]])

    def test_names_in_another_order_than_they_were_added(self):
        street = Street()
        street.add_site("zoo", COIN)
        street.add_site("barn", COLOURS)
        street.link("zoo", "~p", "barn", "m")
        self.assertEqual(joint(street), [0, 1])
        street.link("barn", "true", "barn", "l | m")
        self.assertEqual([joint(street), rest(street)], [[1, 1], [("barn", [1, 2]), ("zoo", [0, 1])]])
        self.assertEqual(settled(street), [("barn", "k", False), ("barn", "n", False)])

    def test_many_choices(self):
        names = "abcde"
        street = street_of(COLOURS, names, different(names))
        self.assertIsNone(joint(street))
        street = street_of(COLOURS, names[:4], different(names[:4]))
        self.assertEqual([joint(street), settled(street)], [[0, 1, 2, 3], []])
        wide = Play(House(["p"], ["1"] * 11 + ["0"], a=[0] * 12))
        street = street_of(wide, names, [])
        self.assertEqual([joint(street), sure(street, "c", "p"), settled(street)], [[0] * 5, [0, 0, 11, 0, 0], []])
        street.link("a", "true", "e", "~p")
        street.link("e", "true", "d", "~p")
        self.assertEqual([joint(street), settled(street)], [[0, 0, 0, 11, 11], [("d", "p", False), ("e", "p", False)]])

    def test_notes_and_later_deeds(self):
        street = street_of(PLAY, "s", [("s", "p", "s", "[c]p")])
        self.assertEqual(joint(street), [0])
        street.tell("s", "x")
        street.note("s", "b", ["yes"])
        self.assertIsNone(joint(street))
        street.tell("s", "y")
        self.assertEqual([joint(street), sure(street, "s", "[abc*]p"), settled(street)], [[1], None, [("s", "p", True)]])


class Strikes(Checks):
    def test_against_their_words(self):
        lengths, empty, rng = [], 0, random.Random(161)
        for source, told in some_streets(162, 250):
            street, truths, left = told.street, told.truths(), told.left()
            made, behind = struck(truths, left)
            self.assertEqual(strikes(street), made)
            self.assertEqual(rest(street), list(behind.items()))
            for _ in range(2):
                order, other = struck(truths, left, rng.choice)
                self.assertEqual(other, behind)
                self.assertIs(strikes_hold(street, order), True)
            lengths.append(len(made))
            empty += any(not cases for cases in behind.values())
            for changed in changed_strikes(source, made):
                self.assertIs(strikes_hold(street, changed), holds_in_turn(truths, left, changed) is not None, changed)
            for name, case, _ in made:
                self.assertNotIn(case, [choice[told.names().index(name)] for choice in told.joint_choices()])
        self.assertGreater(len([one for one in lengths if one > 3]), 15)
        self.assertGreater(empty, 10)

    def test_the_example(self):
        street = street_of(COIN, "st", [("s", "true", "s", "p"), ("s", "p", "t", "p")])
        self.assertEqual([strikes(street), rest(street)], [[("s", 0, 0), ("t", 0, 1)], [("s", [1]), ("t", [1])]])
        for paper, holds in (([], True), ([("s", 0, 0)], True), ([("t", 0, 1)], False), ([("t", 0, 1), ("s", 0, 0)], False),
                             ([("s", 0, 0), ("s", 0, 0)], False), ([("s", 0, 1)], False), ([("s", 1, 0)], False),
                             ([("s", 0, 0), ("t", 0, 1), ("t", 1, 1)], False), ([("s", 0, 2)], False), ([("s", 0, -1)], False),
                             ([("s", 0, HUGE)], False), ([("s", HUGE, 0)], False), ([("s", -2, 0)], False), ([("r", 0, 0)], False),
                             ([("", 0, 0)], False), ([("st", 0, 0)], False), ([("t", 0, 0)], False)):
            self.assertIs(strikes_hold(street, paper), holds, paper)

    def test_the_order(self):
        # The first site, then the smallest case, then the smallest number; case by case, not link by link.
        street = street_of(COIN, "ba", [("b", "true", "b", "false"), ("a", "p", "a", "false"), ("a", "p", "b", "p & ~p"),
                                        ("a", "true", "a", "false")])
        self.assertEqual(strikes(street), [("a", 0, 3), ("a", 1, 1), ("b", 0, 0), ("b", 1, 0)])
        street.unlink(0)
        # No case is left for a, so all that is said of its cases is true.
        self.assertEqual(strikes(street), [("a", 0, 3), ("a", 1, 1), ("b", 0, 2), ("b", 1, 2)])
        self.assertEqual(rest(street), [("a", []), ("b", [])])

    def test_where_no_case_is_left(self):
        for links, wanted in (([("s", "p", "t", "~p")], [("s", [0, 1]), ("t", [0, 1])]),
                              ([("s", "true", "s", "false"), ("s", "p", "t", "p")], [("s", []), ("t", [1])]),
                              ([("s", "true", "s", "false"), ("t", "p", "s", "p")], [("s", []), ("t", [0])]),
                              ([("t", "true", "t", "p"), ("t", "true", "t", "~p"), ("s", "~p", "t", "true")], [("s", [1]), ("t", [])])):
            self.assertEqual(rest(street_of(COIN, "st", links)), wanted)

    def test_a_link_of_a_site_with_itself(self):
        street = street_of(COLOURS, "s", [("s", "k | l", "s", "l | m")])
        self.assertEqual([strikes(street), rest(street), joint(street)], [[("s", 0, 0)], [("s", [1, 2, 3])], [1]])

    def test_fresh_lists(self):
        for call in (joint, settled, strikes, rest):
            self.assert_fresh_list(call, street_of(COIN, "st", [("s", "true", "s", "p"), ("s", "p", "t", "p")]))
        paper = [("r", 0, 0)]
        strikes_hold(RING, paper)
        self.assertEqual(paper, [("r", 0, 0)])


def changed_strikes(source, made):
    """Lists of strikes that differ a little from these."""
    yield made
    yield made[::-1]
    for at in range(len(made)):
        yield made[:at]
        yield made[:at] + made[at + 1:]
        yield made[:at + 1] + made[at:]
        name, case, number = made[at]
        for other in ((name, case, source.randrange(6)), (source.choice(["inn", "barn", "mill", "x"]), case, number),
                      (name, source.randrange(4), number), (name, -1, number), (name, case, -1), (name, case, 77), (name, HUGE, number)):
            yield made[:at] + [other] + made[at + 1:]


def bare_streets(seed, many):
    """Streets where cases of different sites exclude each other by chance, so that strikes alone decide little."""
    source = source_of(seed)
    for _ in range(many):
        told = Told()
        names, colours = "abcd"[:source.randint(2, 4)], "klm"[:source.randint(2, 3)]
        for name in names:
            told.add(name, Play(COLOURS.house.kept(range(len(colours)))), "")
        pairs = [(first, one, second, other) for first, second in itertools.combinations(names, 2)
                 for one in colours for other in colours]
        for first, one, second, other in source.sample(pairs, int(len(pairs) * source.choice([0.5, 0.6, 0.7]))):
            told.link(first, Fact(one), second, Not(Fact(other)))
        yield source, told


class Trees(Checks):
    def test_against_their_words(self):
        depths = []
        for source, told in itertools.chain(some_streets(163, 150, most_size=3, links=14), bare_streets(164, 150)):
            street, truths, left = told.street, told.truths(), told.left()
            if told.joint_choices():
                self.assertIsNone(refute(street))
                self.assertIs(tree_holds(street, ([], told.names()[0], [])) if told.names() else False, False)
                continue
            tree = refute(street)
            self.assertEqual(tree, tree_by_words(truths, left))
            self.assertIs(tree_holds(street, tree), True)
            depths.append(depth_of(tree))
            for changed in changed_trees(source, tree, told.names()):
                self.assertIs(tree_holds(street, changed), is_tree(truths, left, changed), changed)
        self.assertGreater(depths.count(1), 20)
        self.assertGreater(depths.count(2), 10)
        self.assertGreater(max(depths), 2)

    def test_by_hand(self):
        # The links 0 and 1 lead from r to s, 2 and 3 from s to t, and 4 and 5 from t to r.
        tree = refute(RING)
        self.assertEqual(tree, ([], "r", [(0, ([("s", 0, 1), ("t", 0, 5), ("s", 1, 2), ("r", 0, 1), ("t", 1, 2)], "r", [])),
                                          (1, ([("s", 1, 0), ("t", 0, 3), ("r", 1, 4), ("s", 0, 1), ("t", 1, 2)], "r", []))]))
        self.assertIs(tree_holds(RING, tree), True)
        self.assertIs(tree_holds(RING, ([], "r", tree[2][::-1])), True)
        for branches in (tree[2][:1], tree[2][1:], [], tree[2] + tree[2][:1], tree[2] + [(2, tree[2][0][1])],
                         [(0, tree[2][1][1]), (1, tree[2][0][1])], [(0, tree[2][0][1]), (-1, tree[2][1][1])]):
            self.assertIs(tree_holds(RING, ([], "r", branches)), False, branches)
        for name in ("q", "", "rs", "s"):
            self.assertIs(tree_holds(RING, ([], name, tree[2])), False)
        self.assertIs(tree_holds(RING, ([("r", 0, 0)], "r", tree[2][1:])), False)

    def test_a_site_named_again_and_one_with_one_case(self):
        tree = refute(RING)
        again = [(case, ([], "r", [(case, ([], "r", [(case, branch)]))])) for case, branch in tree[2]]
        self.assertIs(tree_holds(RING, ([], "r", again)), True)
        self.assertIs(tree_holds(RING, ([], "r", [(0, ([], "r", again)), again[1]])), False)
        deep = tree[2][0][1]
        for _ in range(600):
            deep = ([], "r", [(0, deep)])
        self.assertIs(tree_holds(RING, ([], "r", [(0, deep), tree[2][1]])), True)
        self.assertIs(tree_holds(RING, ([], "r", [(1, deep), (0, tree[2][1][1])])), False)

    def test_sites_with_no_case_left(self):
        street = street_of(COIN, "ts", [("s", "true", "s", "p"), ("s", "true", "s", "~p"), ("s", "p", "t", "p")])
        made = [("s", 0, 0), ("s", 1, 1), ("t", 0, 2)]
        self.assertEqual(refute(street), (made, "s", []))
        for tree, holds in (((made[:2], "s", []), True), ((made[1::-1], "s", []), True), ((made[:1], "s", []), False),
                            ((made, "t", [(1, ([], "s", []))]), True), ((made, "t", []), False), ((made, "s", [(0, (made, "s", []))]), False),
                            ((made + made[:1], "s", []), False), (([], "s", [(0, ([], "s", [(0, ([], "s", []))])), (1, ([], "s", []))]), False),
                            (([], "s", [(0, ([made[0]], "s", [])), (1, ([made[1]], "s", []))]), True)):
            self.assertIs(tree_holds(street, tree), holds, tree)

    def test_five_sites_and_four_colours(self):
        names = "abcde"
        street = street_of(COLOURS, names, different(names))
        tree = refute(street)
        self.assertEqual((tree[1], [case for case, _ in tree[2]]), ("a", [0, 1, 2, 3]))
        self.assertGreater(depth_of(tree), 3)
        self.assertIs(tree_holds(street, tree), True)
        street.unlink(0)
        self.assertEqual(joint(street), [0, 0, 1, 2, 3])
        self.assertIsNone(refute(street))
        self.assertIs(tree_holds(street, tree), False)


def depth_of(tree):
    return 1 + max([depth_of(below) for _, below in tree[2]], default=0)


def changed_trees(source, tree, names):
    """Trees that differ a little from this one."""
    made, name, branches = tree
    for strikes_made in itertools.islice(changed_strikes(source, made), 12):
        yield (strikes_made, name, branches)
    for other in names + ["", "q", name + "x"]:
        yield (made, other, branches)
        yield (made, other, [])
    yield (made, name, branches[::-1])
    yield (made, name, branches[1:])
    yield (made, name, branches + branches[:1])
    for at, (case, below) in enumerate(branches):
        yield (made, name, branches[:at] + [(case + 1, below)] + branches[at + 1:])
        for changed in itertools.islice(changed_trees(source, below, names), 25):
            yield (made, name, branches[:at] + [(case, changed)] + branches[at + 1:])


class Errors(Checks):
    def test_sure(self):
        street = street_of(PLAY, "st", [])
        good = {"street": street, "name": "s", "saying": "p"}
        for name in ("r", "", "st", "S"):
            for saying, error in (("[d]q", UnknownPerson("d")), ("q | r", UnknownFact("q")), (Knows("h", Fact("p")), UnknownPerson("h"))):
                self.assert_errors_in_order(sure, good, ({"name": name}, UnknownSite(name)), ({"saying": saying}, error))
            self.assert_error(BadSaying(1), sure, street, name, "p)")
        self.assert_errors_in_order(sure, good, ({"saying": "p)"}, BadSaying(1)), ({"name": "r"}, UnknownSite("r")))


if __name__ == "__main__":
    unittest.main()
