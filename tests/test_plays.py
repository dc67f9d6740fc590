import copy
import itertools
import unittest

from thinwall.alike import alike
from thinwall.acts import Look, Turn
from thinwall.deeds import Deed, Tell, Voice
from thinwall.errors import (BadSign, BadText, TooMany, UnknownCase, UnknownDeed, UnknownFact, UnknownPerson,
                             UnlikeHouses)
from thinwall.houses import House
from thinwall.leasts import least, least_holds
from thinwall.plays import Play
from thinwall.splits import Split
from thinwall.tables import Table
from support import HUGE, Checks, source_of
from telling import random_play

HOUSE = House(["p"], ["0", "1"], a=[0, 1], b=[0, 0], c=[0, 0])
PLAY = Play(HOUSE, x="tell a: p / b: true", y="tell b: p / c: true")
NO_SIGNS = ("", "xy", "A", "-", "1", "house_", "?", "{")


class MakingPlays(Checks):
    def test_none_one_and_six_deeds(self):
        empty = Play(HOUSE)
        self.assertEqual((len(empty), empty.signs, empty.start), (0, "", Table(HOUSE)))
        one = Play(HOUSE, m=Deed())
        self.assertEqual((len(one), one.signs, one.deed("m")), (1, "m", Deed()))
        six = Play(HOUSE, z="none", b="voice: p", a=Look("a", "p"), d="call: p", y=Deed(b="p"), c=Turn("p", Deed(), Deed()))
        self.assertEqual((len(six), six.signs), (6, "abcdyz"))
        self.assertEqual([str(six.deed(sign)) for sign in six.signs],
                         ["look a: p", "voice: p", "turn p ?? none :: none", "call: p", "none / b: p", "none"])
        self.assertIs(six.house, HOUSE)

    def test_objects_and_texts_in_any_order(self):
        deed = Tell("b", "p", c="true")
        play = Play(HOUSE, y=deed, x="tell a: p / b: true")
        self.assertEqual(play, PLAY)
        self.assertIs(play.deed("y"), deed)
        self.assertIsInstance(play.deed("x"), Tell)

    def test_in(self):
        self.assertIs("x" in PLAY, True)
        self.assertIs("y" in PLAY, True)
        for sign in NO_SIGNS + ("a", "z"):
            self.assertIs(sign in PLAY, False)
            self.assertIs(sign in Play(HOUSE), False)

    def test_deed(self):
        for sign in NO_SIGNS + ("a", "z", "xx"):
            self.assert_error(UnknownDeed(sign, 0), PLAY.deed, sign)

    def test_start_is_read_only(self):
        self.assertEqual(PLAY.start, Table(HOUSE))
        self.assertRaises(AttributeError, setattr, PLAY, "start", Table(HOUSE))

    def test_errors_in_their_order(self):
        many = {sign: "none" for sign in "abcdefg"}
        self.assert_error(TooMany(6), Play, HOUSE, **many)
        for sign in NO_SIGNS:
            self.assert_error(BadSign(sign), Play, HOUSE, **{sign: "none"})
            self.assert_error(BadSign(sign), Play, HOUSE, **many, **{sign: "none"})
            self.assert_error(BadSign(sign), Play, HOUSE, **{sign: "nothing", "a": Voice("x")})
        self.assert_error(BadSign("B"), Play, HOUSE, b="none", xx="none", B="none")
        self.assert_error(TooMany(6), Play, HOUSE, **{**many, "g": "nothing", "a": Voice("x")})
        self.assert_error(BadText("nothing"), Play, HOUSE, g="nothing", a=Voice("x"), z="")
        self.assert_error(BadText("voice: p)"), Play, HOUSE, c="", b="voice: p)")
        self.assert_error(BadText("tell a: p / a: true"), Play, HOUSE, c="tell a: p / a: true")
        self.assert_error(UnknownFact("x"), Play, HOUSE, b="voice: x", c="voice: [d]w")
        self.assert_error(UnknownPerson("d"), Play, HOUSE, c="voice: x", b="voice: [d]w")
        self.assert_error(UnknownPerson("e"), Play, HOUSE, a="none", c="voice: x", b=Deed(e="x"))

    def test_equal_plays(self):
        plays = [PLAY, Play(HOUSE), Play(HOUSE, x=PLAY.deed("x")), Play(HOUSE, x="tell b: p / c: true", y=PLAY.deed("x")),
                 Play(HOUSE, x=PLAY.deed("x"), z=PLAY.deed("y")), Play(House(["p"], ["1", "1"], a=[0, 1], b=[0, 0], c=[0, 0]),
                                                                      x=PLAY.deed("x"), y=PLAY.deed("y"))]
        for one, other in itertools.product(plays, repeat=2):
            self.assertIs(one == other, one is other)
            self.assertIs(one != other, one is not other)
        again = Play(House(["p"], ["0", "1"], a=[3, 4], b=[0, 0], c=[9, 9]), y=PLAY.deed("y"), x=str(PLAY.deed("x")))
        self.assertTrue(PLAY == again)
        self.assertFalse(PLAY != again)
        self.assert_unlike_other_things(PLAY)
        self.assertFalse(PLAY == HOUSE)
        self.assertFalse(Play(HOUSE) == Table(HOUSE))

    def test_what_is_passed_later_has_no_effect(self):
        deeds = {"x": "none"}
        play = Play(HOUSE, **deeds)
        deeds["y"] = "none"
        self.assertEqual(play.signs, "x")


class Rows(Checks):
    def test_after(self):
        for row, text in (("", "a:0|1 b:0,1 c:0,1"), ("y", "a:0|1 b:0,1 c:0,1"), ("x", "a:0|1 b:0|1 c:0,1"),
                          ("yx", "a:0|1 b:0|1 c:0,1"), ("xy", "a:0|1 b:0|1 c:0|1"), ("yxyyx", "a:0|1 b:0|1 c:0|1")):
            self.assertEqual(str(PLAY.after(row)), text)
        self.assertEqual(PLAY.after("xy" * 20), PLAY.after("xy"))
        self.assertEqual(PLAY.after(""), PLAY.start)

    def test_after_another_table(self):
        table = Table(HOUSE, a=Split.whole(2), b=Split.apart(2))
        self.assertEqual(str(PLAY.after("x", table=table)), "a:0,1 b:0|1 c:0,1")
        self.assertEqual(str(PLAY.after("yx", table=table)), "a:0,1 b:0|1 c:0|1")
        self.assertEqual(PLAY.after("", table=table), table)
        self.assertEqual(PLAY.after("y", table=None), PLAY.start)
        other = Table(House(["p"], ["0", "1"], a=[0, 1], b=[0, 0]))
        self.assert_errors_in_order(PLAY.after, {"row": "x", "table": table}, ({"row": "xz"}, UnknownDeed("z", 1)),
                                    ({"table": other}, UnlikeHouses("house")))
        self.assert_error(UnlikeHouses("house"), PLAY.after, "", table=other)

    def test_one_deed_after_the_other(self):
        source = source_of(70)
        for _ in range(60):
            play = random_play(source, source.randint(1, 4))
            row = "".join(source.choice(play.signs) for _ in range(source.choice([1, 3, 6, 40])))
            tables, words = [play.start], {letter: [] for letter in "abc"}
            kept = ""
            for sign in row:
                deed = play.deed(sign)
                for letter in "abc":
                    words[letter].append(deed.heard(tables[-1], letter))
                tables.append(deed(tables[-1]))
                kept += sign if tables[-1] != tables[-2] else ""
            self.assertEqual(play.after(row), tables[-1])
            for letter in "abc":
                for case in range(play.house.size):
                    self.assertEqual(play.words(row, letter, case), [told[case] for told in words[letter]])
            self.assertEqual(play.essential(row), kept)
            self.assertEqual(play.after(kept), tables[-1])
            at = source.randint(0, len(row))
            self.assertEqual(play.after(row[at:], table=play.after(row[:at])), tables[-1])

    def test_words_by_hand(self):
        self.assertEqual(PLAY.words("yxy", "c", 1), ["unsure", "-", "yes"])
        self.assertEqual(PLAY.words("yxy", "b", 0), ["unsure", "no", "no"])
        self.assertEqual(PLAY.words("yxy", "a", 0), ["-", "no", "-"])
        self.assertEqual(PLAY.words("", "a", 1), [])

    def test_errors_of_words_in_their_order(self):
        for letter in ("d", "", "ab", "z"):
            for case in (2, -1, HUGE):
                self.assert_errors_in_order(
                    PLAY.words, {"row": "xy", "letter": "a", "case": 0}, ({"row": "xyz"}, UnknownDeed("z", 2)),
                    ({"letter": letter}, UnknownPerson(letter)), ({"case": case}, UnknownCase(case)))

    def test_essential_where_a_deed_tells_something_only_later(self):
        self.assertEqual(PLAY.essential("yxy"), "xy")
        self.assertEqual(PLAY.essential("yyxxyxy"), "xy")
        self.assertEqual(PLAY.essential("yy"), "")
        self.assertEqual(PLAY.essential(""), "")

    def test_rows_with_characters_that_are_no_signs(self):
        for row, sign, place in (("z", "z", 0), ("xyA", "A", 2), ("x y", " ", 1), ("x-?", "-", 1)):
            for call in (PLAY.after, PLAY.essential, lambda one: PLAY.words(one, "a", 0)):
                self.assert_error(UnknownDeed(sign, place), call, row)
        self.assert_error(UnknownDeed("x", 0), Play(HOUSE).after, "x")


class OtherPlays(Checks):
    def test_only(self):
        self.assertEqual(PLAY.only("y"), Play(HOUSE, y=PLAY.deed("y")))
        self.assertEqual(PLAY.only("yzA? y"), Play(HOUSE, y=PLAY.deed("y")))
        self.assertEqual(PLAY.only("xy"), PLAY)
        self.assertEqual(PLAY.only("yyx-"), PLAY)
        self.assertEqual(PLAY.only(""), Play(HOUSE))
        self.assertEqual(PLAY.only("abc").signs, "")
        self.assertEqual(len(PLAY), 2)

    def test_within(self):
        house = House(["q", "p"], ["01", "10"], a=[0, 0], b=[0, 0], c=[0, 1], d=[0, 0])
        play = PLAY.within(house)
        self.assertEqual(play.house, house)
        self.assertEqual((play.signs, play.deed("x"), play.deed("y")), ("xy", PLAY.deed("x"), PLAY.deed("y")))
        self.assertEqual(play.start, Table(house))
        self.assertEqual(PLAY.house, HOUSE)

    def test_errors_of_within_in_their_order(self):
        self.assert_error(UnknownPerson("b"), PLAY.within, House(["q"], ["0"], a=[0], c=[0]))
        self.assert_error(UnknownPerson("a"), PLAY.within, House(["p"], ["0"], b=[0]))
        self.assert_error(UnknownPerson("c"), PLAY.within, House(["p"], ["0"], b=[0], a=[0]))
        self.assert_error(UnknownFact("p"), PLAY.within, House(["q"], ["0"], a=[0], b=[0]))

    def test_least(self):
        house = House(["p"], ["1", "0", "1", "0"], a=[0, 1, 0, 1], b=[0, 0, 0, 0], c=[0, 0, 0, 0])
        play, onto = Play(house, x=PLAY.deed("x"), y=PLAY.deed("y")).least()
        self.assertEqual(play, PLAY.within(House(["p"], ["1", "0"], a=[0, 1], b=[0, 0], c=[0, 0])))
        self.assertEqual(onto, [0, 1, 0, 1])
        self.assertIsInstance(PLAY.least(), tuple)
        source = source_of(71)
        smaller = 0
        for _ in range(60):
            play = random_play(source, size=source.randint(2, 8), facts="p")
            form, onto = play.least()
            self.assertEqual((form.house, onto), least(play.start))
            self.assertEqual(form, play.within(form.house))
            self.assertTrue(least_holds(play.start, form.house, onto))
            smaller += form.house.size < play.house.size
            # What is alike at the beginning stays alike behind each row.
            row = "".join(source.choice(play.signs) for _ in range(3)) if play.signs else ""
            split = alike(form.after(row))
            for one, other in itertools.product(range(play.house.size), repeat=2):
                if onto[one] == onto[other]:
                    self.assertTrue(alike(play.after(row)).together(one, other))
                    self.assertTrue(split.together(onto[one], onto[other]))
            for letter in "abc":
                for case in range(play.house.size):
                    self.assertEqual(play.words(row, letter, case), form.words(row, letter, onto[case]))
        self.assertGreater(smaller, 8)

    def test_nothing_is_changed(self):
        kept = copy.deepcopy(PLAY)
        PLAY.after("xyxy"), PLAY.words("xy", "a", 0), PLAY.essential("yx"), PLAY.only("x"), PLAY.within(HOUSE), PLAY.least()
        self.assertEqual(PLAY, kept)
        self.assertEqual(PLAY.start, kept.start)
        self.assert_fresh_list(PLAY.words, "xy", "b", 1)
        found = PLAY.least()[1]
        found.append(9)
        self.assertEqual(PLAY.least()[1], [0, 1])


if __name__ == "__main__":
    unittest.main()
