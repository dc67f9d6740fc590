import unittest

from thinwall.acts import Call, Look, Turn
from thinwall.deeds import Deed, Hint, Letter, Tell, Voice
from thinwall.errors import BadLetter, BadSaying, BadTurn, NotPlain
from thinwall.houses import House
from thinwall.sayings import Fact, Or, Truth
from thinwall.tables import Table
from oracles import random_table
from support import Checks, source_of
from telling import KINDS, heard_in, made, random_told


class Acts(Checks):
    def test_the_example(self):
        table = Table(House.matching(["p", "q"], "p | q", a=["q"], b=["p"]))
        call = Call("p & q", a="true", b="true")
        self.assertEqual([call.said(table), str(call(table))], [["b", "a", "-"], "a:0|1|2 b:0|1|2"])

    def test_kinds_and_attributes(self):
        for one, kind in ((Look, "look"), (Call, "call"), (Turn, "turn")):
            self.assertEqual((one.KIND, one.__bases__), (kind, (Deed,)))
        look = Look("a", "p | q", dim=Fact("q"))
        self.assertEqual((look.who, look.what, look.dim), ("a", Or(Fact("p"), Fact("q")), Fact("q")))
        self.assertEqual(Look("a", "p").dim, Truth(False))
        one, other = Voice("p"), Hint("a", "q")
        turn = Turn("~p", one, other)
        self.assertEqual(str(turn.when), "~p")
        self.assertIs(turn.first, one)
        self.assertIs(turn.second, other)
        self.assertEqual(Call("[a]p").what, Call(" [a] p ").what)

    def test_a_turn_over_each_two_kinds(self):
        source = source_of(64)
        inner = [kind for kind in KINDS if kind != "turn"]
        for one in inner:
            for other in inner:
                told = random_told(source, kinds=("turn",))
                told["first"], told["second"] = [random_told(source, kinds=(kind,)) for kind in (one, other)]
                table, deed = random_table(source, 6), made(told)
                for letter in "abc":
                    self.assertEqual(deed.heard(table, letter), [heard_in(told, table, case, letter) for case in range(6)])

    def test_looking_in_the_dark(self):
        table = Table(House(["p", "q"], ["00", "01", "10", "11"], a=[0] * 4, b=[0] * 4))
        look = Look("a", "p", dim="q")
        self.assertEqual(look.heard(table, "a"), ["no", "-", "yes", "-"])
        self.assertEqual(look.heard(table, "b"), ["-"] * 4)
        self.assertEqual(str(look(table)), "a:0|1,3|2 b:0,1,2,3")

    def test_errors_of_a_look_in_their_order(self):
        for who in ("", "i", "ab", "A"):
            self.assert_errors_in_order(
                Look, {"who": "a", "what": "p", "dim": "q"}, ({"who": who}, BadLetter(who)),
                ({"what": "[b]p"}, NotPlain("[b]p")), ({"dim": "[a?]p"}, NotPlain("[a?]p")))
            for text in ("[b]p", "p"):
                self.assert_error(BadSaying(2), Look, who, text, dim="p q")
                self.assert_error(BadSaying(1), Look, who, "p)", dim="pp)")

    def test_errors_of_a_call_in_their_order(self):
        self.assert_errors_in_order(
            Call, {"what": "[c]p"}, ({"what": "p)"}, BadSaying(1)), ({"a": "pp)"}, BadSaying(2)),
            ({"i": "p"}, BadLetter("i")), ({"who": "p"}, BadLetter("who")), ({"b": "[a]p"}, NotPlain("[a]p")))

    def test_errors_of_a_turn_in_their_order(self):
        turn = Turn("p", Deed(), Deed())
        good = {"when": "p", "first": Deed(), "second": Tell("a", "p")}
        for when, error in (("p |", BadSaying(3)), ("[a]p", NotPlain("[a]p")), ("p & [b*]q", NotPlain("p & [b*]q"))):
            self.assert_errors_in_order(Turn, good, ({"when": when}, error), ({"first": turn}, BadTurn()),
                                        ({"second": turn}, BadTurn()))
        for deed in (Voice("p"), Hint("a", "p"), Letter("a", "b", "p"), Look("a", "p"), Call("p")):
            self.assertEqual(str(Turn("q", deed, deed)), f"turn q ?? {deed} :: {deed}")


if __name__ == "__main__":
    unittest.main()
