import itertools
import unittest

from thinwall.errors import BadCount, BadGroup, BadName
from thinwall.sayings import And, Common, Fact, Knows, Not, Or, Saying, Truth, Whether, nested
from thinwall.splits import Split
from support import HUGE, Checks, random_saying, source_of

P, Q, R = Fact("p"), Fact("q"), Fact("r")


def direct_parts(saying):
    if isinstance(saying, (And, Or)):
        return [saying.first, saying.second]
    return [] if isinstance(saying, (Truth, Fact)) else [saying.inner]


def all_parts(saying):
    return [saying] + [part for below in direct_parts(saying) for part in all_parts(below)]


def depth_of(saying):
    return isinstance(saying, (Knows, Whether, Common)) + max([depth_of(part) for part in direct_parts(saying)] + [0])


def is_positive(saying):
    if depth_of(saying) == 0:
        return True
    if isinstance(saying, Whether):
        return depth_of(saying.inner) == 0
    return not isinstance(saying, Not) and all(is_positive(part) for part in direct_parts(saying))


def fill(saying, found):
    if isinstance(saying, Fact):
        return found.get(saying.name, saying)
    if isinstance(saying, Truth):
        return saying
    if isinstance(saying, (And, Or, Not)):
        return type(saying)(*[fill(part, found) for part in direct_parts(saying)])
    return type(saying)(saying.group, fill(saying.inner, found))


def some_sayings(seed, many=300, most=14):
    source = source_of(seed)
    return [random_saying(source, source.randint(1, most)) for _ in range(many)]


class TheKinds(Checks):
    def test_they_are_direct_subclasses(self):
        for kind in (Truth, Fact, Not, And, Or, Knows, Whether, Common):
            self.assertEqual(kind.__bases__, (Saying,))
            self.assertIn("__init__", vars(kind))

    def test_what_stands_in_saying_itself(self):
        names = "parts facts letters filled plain depth positive __invert__ __and__ __or__ __eq__ __ne__ __len__ " \
                "__str__ __repr__"
        for name in names.split():
            self.assertIn(name, vars(Saying))
        for name in ("plain", "depth", "positive"):
            self.assertRaises(AttributeError, setattr, P, name, 1)

    def test_attributes(self):
        self.assertIs(Truth(True).value, True)
        self.assertIs(Truth(False).value, False)
        self.assertEqual(P.name, "p")
        self.assertIs(Not(P).inner, P)
        for kind in (And, Or):
            saying = kind(P, Q)
            self.assertIs(saying.first, P)
            self.assertIs(saying.second, Q)
        for kind in (Knows, Whether, Common):
            saying = kind("ab", P)
            self.assertEqual(saying.group, "ab")
            self.assertIs(saying.inner, P)

    def test_names(self):
        for name in ("a", "z", "abcdefgh", "truex", "falsey", "tru", "fals", "truetrue", "xtrue"):
            self.assertEqual(Fact(name).name, name)
        for name in ("", "true", "false", "abcdefghi", "A", "pQ", "p1", "p ", " p", "p_q", "\u00e4", "\u00df", "p\n",
                     "a" * 100, "~p", "1", "`", "{"):
            self.assert_error(BadName(name), Fact, name)

    def test_groups(self):
        for kind in (Knows, Whether, Common):
            for group in ("a", "h", "ab", "ah", "abcdefgh", "bdfh"):
                self.assertEqual(kind(group, P).group, group)
            for group in ("", "i", "ba", "aa", "aba", "abb", "A", "a b", " ", "ai", "1", "abcdefghi", "\u00e4", "a?", "*"):
                self.assert_error(BadGroup(group), kind, group, P)
                self.assert_error(BadGroup(group), nested, group, P, 1)

    def test_operators_build_and_simplify_nothing(self):
        self.assertIsInstance(~P, Not)
        self.assertIsInstance(P & Q, And)
        self.assertIsInstance(P | Q, Or)
        self.assertIs((~P).inner, P)
        self.assertIs((P & Q).first, P)
        self.assertIs((P & Q).second, Q)
        self.assertIs((P | Q).first, P)
        self.assertIs((P | Q).second, Q)
        self.assertEqual([str(~~P), str(P & P), str(P | Truth(True)), str(~Truth(True))],
                         ["~~p", "p & p", "p | true", "~true"])


class TheTexts(Checks):
    def test_each_kind(self):
        known = {
            "true": Truth(True), "false": Truth(False), "p": P, "~p": Not(P), "p & q": And(P, Q), "p | q": Or(P, Q),
            "[ab]p": Knows("ab", P), "[ab?]p": Whether("ab", P), "[ab*]p": Common("ab", P),
        }
        for text, saying in known.items():
            self.assertEqual(str(saying), text)
            self.assertEqual(repr(saying), f"Saying('{text}')")

    def test_parentheses_only_where_they_are_needed(self):
        known = {
            "~(p & q)": ~(P & Q), "~(p | q)": ~(P | Q), "~~p": ~~P, "~p & ~q": ~P & ~Q, "~[a]p": ~Knows("a", P),
            "[a](p & q)": Knows("a", P & Q), "[a?](p & q)": Whether("a", P & Q), "[a*](p & q)": Common("a", P & Q),
            "[a](p | q)": Knows("a", P | Q), "[a?](p | q)": Whether("a", P | Q), "[a*](p | q)": Common("a", P | Q),
            "[a]~[b?][c*]p": Knows("a", ~Whether("b", Common("c", P))), "[a]p & q": Knows("a", P) & Q,
            "p & q & r": (P & Q) & R, "p & (q & r)": P & (Q & R), "p | q | r": (P | Q) | R, "p | (q | r)": P | (Q | R),
            "p & q | r": (P & Q) | R, "p | q & r": P | (Q & R), "(p | q) & r": (P | Q) & R, "p & (q | r)": P & (Q | R),
            "(p | q) & (r | p)": (P | Q) & (R | P), "p & q | r & p": (P & Q) | (R & P),
            "p & q & (r & p)": (P & Q) & (R & P), "p | q | (r | p)": (P | Q) | (R | P),
            "[ab](p | ~q) & r": Knows("ab", P | ~Q) & R, "~(p & q) | r": ~(P & Q) | R,
        }
        for text, saying in known.items():
            self.assertEqual(str(saying), text)

    def test_equal_sayings(self):
        self.assertTrue(And(P, Q) == And(Fact("p"), Fact("q")))
        self.assertFalse(And(P, Q) != And(Fact("p"), Fact("q")))
        different = [Truth(True), Truth(False), P, Q, ~P, P & Q, Q & P, P | Q, Knows("a", P), Knows("b", P),
                     Whether("a", P), Common("a", P), Common("ab", P), P & (Q & R), (P & Q) & R, Knows("a", Q)]
        for one, other in itertools.product(different, different):
            self.assertIs(one == other, one is other)
            self.assertIs(one != other, one is not other)

    def test_a_saying_is_like_no_other_thing(self):
        for saying in (P, Truth(True), P & Q):
            self.assert_unlike_other_things(saying)
        self.assertFalse(P == "p")
        self.assertFalse(P == Split([0]))
        self.assertTrue(Split([0]) != P)


class ThePartsOfSayings(Checks):
    def test_parts_in_order_with_duplicates(self):
        saying = Knows("a", ~P & Q) | (Q & P)
        self.assertEqual([str(part) for part in saying.parts()],
                         ["[a](~p & q) | q & p", "[a](~p & q)", "~p & q", "~p", "p", "q", "q & p", "q", "p"])
        self.assertIs(saying.parts()[0], saying)
        self.assertEqual(len(saying), 9)

    def test_parts_facts_letters(self):
        for saying in some_sayings(6):
            parts = all_parts(saying)
            self.assertEqual(saying.parts(), parts)
            self.assertEqual(len(saying), len(parts))
            self.assertEqual(saying.facts(), sorted({part.name for part in parts if isinstance(part, Fact)}))
            self.assertEqual(saying.letters(), "".join(sorted({letter for part in parts
                                                               for letter in getattr(part, "group", "")})))

    def test_facts_and_letters_by_hand(self):
        saying = Common("bd", Fact("z") & Fact("ab")) | Whether("ab", Fact("b") | Fact("z")) & Truth(True)
        self.assertEqual(saying.facts(), ["ab", "b", "z"])
        self.assertEqual(saying.letters(), "abd")
        self.assertEqual((Truth(True).facts(), Truth(True).letters(), len(Truth(True))), ([], "", 1))
        saying = Truth(False)
        for name in "zyxwvutsrqponmlkjihgfedcbaza":
            saying = Knows(name if name < "i" else "h", saying & Fact(name) & Fact("b" + name))
        self.assertEqual(saying.facts(), sorted(list("abcdefghijklmnopqrstuvwxyz") +
                                                ["b" + name for name in "abcdefghijklmnopqrstuvwxyz"]))
        self.assertEqual(saying.letters(), "abcdefgh")

    def test_plain_depth_positive(self):
        for saying in some_sayings(7):
            self.assertIs(saying.plain, depth_of(saying) == 0)
            self.assertEqual(saying.depth, depth_of(saying))
            self.assertIs(saying.positive, is_positive(saying))

    def test_plain_depth_positive_by_hand(self):
        known = [
            (~P & Q, True, 0, True), (Knows("a", P), False, 1, True), (~Knows("a", P), False, 1, False),
            (Whether("a", ~P), False, 1, True), (Whether("a", Knows("b", P)), False, 2, False),
            (Common("ab", Knows("a", P) | ~Q), False, 2, True), (Common("a", ~Whether("b", P)), False, 2, False),
            (Knows("a", Whether("b", P)) & Common("a", Q), False, 2, True), (~P & Knows("a", ~P), False, 1, True),
            (P | Whether("a", Whether("b", P)), False, 2, False), (~~Knows("a", P), False, 1, False),
        ]
        for saying, plain, depth, positive in known:
            self.assertEqual((saying.plain, saying.depth, saying.positive), (plain, depth, positive), str(saying))

    def test_long_sayings(self):
        saying = P
        for _ in range(500):
            saying = Knows("a", ~saying) & Q
        self.assertEqual((len(saying), saying.depth, saying.plain, saying.positive), (2001, 500, False, False))
        self.assertEqual(len(saying.filled(p=Q & R)), 2003)

    def test_lists_of_parts_and_facts_are_new(self):
        saying = Knows("a", P & Q)
        found = saying.parts()
        found.clear()
        self.assertEqual(len(saying.parts()), 4)
        self.assert_fresh_list(saying.facts)
        self.assertEqual(str(saying), "[a](p & q)")


class Filling(Checks):
    def test_facts_are_replaced_once(self):
        saying = P & Q | Knows("a", P)
        self.assertEqual(str(saying.filled(p=Q | R, q=P)), "(q | r) & p | [a](q | r)")
        self.assertEqual(str(P.filled(p=~P)), "~p")
        self.assertEqual(saying.filled(), saying)
        self.assertEqual(str(saying), "p & q | [a]p")

    def test_all_kinds(self):
        source = source_of(8)
        for saying in some_sayings(9):
            found = {name: random_saying(source, 3) for name in source.sample(["p", "q", "r", "s"], 2)}
            self.assertEqual(saying.filled(**found), fill(saying, found))

    def test_keywords_that_do_not_occur_or_are_no_names(self):
        saying = And(Truth(True), P) | Not(Truth(False))
        odd = {"true": Q, "false": Q, "P": Q, "toolongname": Q, "p1": Q, "": Q, "a b": Q, "q": R}
        self.assertEqual(saying.filled(**odd), saying)

    def test_the_saying_and_the_keywords_stay_as_they_are(self):
        saying, found = P & Q, {"p": Q & R}
        saying.filled(**found)
        self.assertEqual((str(saying), list(found), str(found["p"])), ("p & q", ["p"], "q & r"))


class Nesting(Checks):
    def test_counts(self):
        self.assertIs(nested("ab", P, 0), P)
        self.assertEqual(str(nested("ab", P & Q, 1)), "[ab](p & q)")
        self.assertEqual(str(nested("b", P, 3)), "[b][b][b]p")
        self.assertEqual(nested("a", P, 12).depth, 12)
        self.assertIsInstance(nested("a", P, 1), Knows)

    def test_errors_in_their_order(self):
        for count in (-1, 13, HUGE, -HUGE):
            self.assert_error(BadCount(count), nested, "a", P, count)
            self.assert_error(BadGroup("ba"), nested, "ba", P, count)
        self.assert_error(BadGroup(""), nested, "", P, 0)


if __name__ == "__main__":
    unittest.main()
