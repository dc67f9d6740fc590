import copy
import itertools
import unittest

from thinwall.acts import Call, Look, Turn
from thinwall.alike import alike_pairs
from thinwall.deeds import Deed, Hint, Letter, Tell, Voice
from thinwall.errors import BadHouse, BadLetter, BadSaying, NotPlain, UnknownFact, UnknownPerson
from thinwall.houses import House
from thinwall.reading import read_saying
from thinwall.sayings import And, Fact, Knows, Not, Or, Saying, Truth
from thinwall.splits import Split
from thinwall.tables import Table
from oracles import lifted_table, random_table
from support import Checks, source_of
from telling import KINDS, effective_ears, heard_in, made, named_in, random_told, said_in, text_of

HOUSE = House(["p", "q"], ["00", "01", "10", "11"], a=[0, 0, 1, 1], b=[0, 1, 0, 1], c=[0, 0, 0, 0])
TABLE = Table(HOUSE)
NO_LETTERS = ("", "i", "z", "A", "ab", "-", "who", "true", "?")


def some_deeds(seed, many):
    """Deeds of each kind by chance, as they are told."""
    source = source_of(seed)
    for turn in range(many):
        yield source, random_told(source, kinds=(KINDS[turn % len(KINDS)],))


class WhatIsSaid(Checks):
    def test_the_example(self):
        table = Table(House(["p"], ["0", "1"], a=[0, 1], b=[0, 0]))
        self.assertEqual([Tell("a", "p", lies="true").said(table), str(Tell.into("a", "b", "p")(table)),
                          str(Letter("a", "b", "p", lost="p"))],
                         [["yes", "no"], "a:0|1 b:0|1", "letter a b: p / lost: p"])

    def test_each_kind_by_hand(self):
        for deed, words in (
                (Deed(), "- - - -"), (Deed(a="true"), "- - - -"), (Voice("p & q"), "no no no yes"),
                (Voice("[a]p"), "no no yes yes"), (Hint("a", "p"), "- - yes yes"), (Hint("a", "p & q"), "- - - -"),
                (Tell("a", "p"), "no no yes yes"), (Tell("a", "q"), "unsure unsure unsure unsure"),
                (Tell("a", "p & q"), "no no unsure unsure"), (Tell("a", "p & q", lies="q"), "no yes unsure unsure"),
                (Tell("a", "p", lies="true"), "yes yes no no"),
                (Letter("b", "c", "q | p", lies="p"), "unsure yes unsure no"),
                (Letter("b", "c", "q", lost="true"), "no yes no yes"), (Look("c", "p"), "no no yes yes"),
                (Look("c", "p", dim="true"), "no no yes yes"), (Call("p"), "a a a a"), (Call("p & q"), "ab a b -"),
                (Call("true"), "abc abc abc abc"), (Turn("q", Voice("p"), Tell("a", "q")), "unsure no unsure yes"),
                (Turn("true", Deed(), Voice("true")), "- - - -")):
            self.assertEqual(deed.said(TABLE), words.split(), str(deed))

    def test_what_is_said_and_heard_by_the_words_of_the_document(self):
        words = {kind: set() for kind in KINDS}
        for source, told in some_deeds(60, 640):
            table = random_table(source, source.randint(1, 7))
            deed = made(told, source.random() < 0.5)
            cases = range(table.house.size)
            said = [said_in(told, table, case) for case in cases]
            self.assertEqual(deed.said(table), said)
            heard = {letter: [heard_in(told, table, case, letter) for case in cases] for letter in "abc"}
            for letter in "abc":
                self.assertEqual(deed.heard(table, letter), heard[letter], (letter, str(deed)))
            behind = deed(table)
            self.assertEqual(behind.house, table.house)
            for letter, (one, other) in itertools.product("abc", itertools.product(cases, repeat=2)):
                self.assertIs(behind.view(letter).together(one, other), table.view(letter).together(one, other)
                              and heard[letter][one] == heard[letter][other])
            self.assertTrue(behind.finer(table))
            words[told["kind"]] |= set(said)
        self.assertEqual(words["none"], {"-"})
        self.assertEqual(words["hint"], {"-", "yes"})
        self.assertEqual(words["tell"], {"yes", "no", "unsure"})
        self.assertEqual(words["letter"], {"yes", "no", "unsure"})
        self.assertEqual(words["voice"] | words["look"], {"yes", "no"})
        self.assertLessEqual({"-", "a", "bc", "abc"}, words["call"])

    def test_all_ears_some_ears_and_none(self):
        wanted = {"none": "- - - -", "voice: p": "no no yes yes", "hint a: p": "- - yes yes", "tell a: p": "no no yes yes",
                  "letter a b: p": "no no yes yes", "call: p": "a a a a"}
        own = {"hint a: p": "a", "tell a: p": "a", "letter a b: p": "ab"}
        makers = {"none": Deed, "voice: p": lambda **ears: Voice("p", **ears), "hint a: p": lambda **ears: Hint("a", "p", **ears),
                  "tell a: p": lambda **ears: Tell("a", "p", **ears), "call: p": lambda **ears: Call("p", **ears),
                  "letter a b: p": lambda **ears: Letter("a", "b", "p", **ears)}
        for text, make in makers.items():
            for hearers in ("", "c", "ab", "abc"):
                deed = make(**{letter: "true" for letter in hearers})
                for letter in "abc":
                    words = wanted[text].split() if letter in hearers + own.get(text, "") else ["-"] * 4
                    self.assertEqual(deed.heard(TABLE, letter), words, (str(deed), letter))

    def test_who_tells_also_learns_from_the_own_word(self):
        table = Table(House(["p", "liar"], ["10", "11"], a=[0, 0], b=[0, 0]))
        deed = Tell("a", "p", lies="liar")
        self.assertEqual(deed.heard(table, "a"), ["yes", "no"])
        self.assertEqual(str(deed(table)), "a:0|1 b:0,1")

    def test_hearing_nothing_tells_something(self):
        table = Table(House(["p"], ["0", "1"], a=[0, 1], b=[0, 0]))
        self.assertEqual(Hint("a", "p", b="true").heard(table, "b"), ["-", "yes"])
        self.assertEqual(str(Hint("a", "p", b="true")(table)), "a:0|1 b:0|1")
        # Who is deaf where p holds learns that it does from the silence.
        self.assertEqual(Voice("true", b="~p").heard(table, "b"), ["yes", "-"])
        self.assertEqual(str(Voice("true", b="~p")(table)), "a:0|1 b:0|1")

    def test_everybody_in_the_house_may_call(self):
        table = Table(House(["p"], ["0", "1"], a=[0, 1], b=[0, 0], h=[0, 1]))
        self.assertEqual(Call("p", b="true").said(table), ["ah", "ah"])
        self.assertEqual(Call("[a?]p", b="true").said(table), ["abh", "abh"])
        self.assertEqual(Call("p", b="true").heard(table, "a"), ["-", "-"])

    def test_deeds_that_tell_nothing(self):
        for deed in (Deed(), Deed(a="true", b="p"), Voice("p"), Voice("p", a="false", b="(false)"), Call("q"),
                     Voice("true", a="true", c="true"), Tell("a", "p"), Look("a", "p"), Look("a", "q", dim="true"),
                     Turn("p", Deed(), Deed(c="q")), Letter("a", "c", "p", lost="true"), Hint("c", "p")):
            self.assertEqual(deed(TABLE), TABLE, str(deed))
        for deed in (Voice("p", c="true"), Tell("a", "p", b="true"), Look("a", "q"), Look("b", "p", dim="q"),
                     Letter("a", "c", "p"), Letter("a", "c", "p", lost="true", b="true"), Voice("true", c="p"),
                     Turn("p", Voice("true", b="true"), Deed())):
            self.assertNotEqual(deed(TABLE), TABLE, str(deed))

    def test_the_table_counts_and_not_the_eyes(self):
        table = Table(HOUSE, a=Split.apart(4), c=Split.apart(4))
        self.assertEqual(Tell("a", "q", b="true").said(table), ["no", "yes", "no", "yes"])
        self.assertEqual(str(Tell("a", "p", b="true")(table)), "a:0|1|2|3 b:0|1|2|3 c:0|1|2|3")

    def test_alike_cases_stay_alike(self):
        source = source_of(61)
        for turn in range(80):
            first = random_table(source, source.randint(1, 5), "pq", "abc")
            second, copied = lifted_table(source, first, source.randint(first.house.size, 9))
            deed = made(random_told(source, "pq", kinds=(KINDS[turn % len(KINDS)],)))
            pairs = alike_pairs(deed(first), deed(second))
            self.assertTrue(all((case, at) in pairs for at, case in enumerate(copied)), str(deed))


class EarsAndNames(Checks):
    def test_ears_as_told_and_never_simplified(self):
        letter = Letter("a", "b", "p", lost="false", lies="q", c="p & true", d="(false)", a="q", e="q & ~q")
        wanted = {"a": "true", "b": "~false", "c": "p & true", "d": "false", "e": "q & ~q", "f": "false", "h": "false"}
        for person, ear in wanted.items():
            self.assertEqual(str(letter.ear(person)), ear)
            self.assertIsInstance(letter.ear(person), Saying)
        self.assertEqual(Letter("a", "b", "p", lost="~~q").ear("b"), Not(read_saying("~~q")))
        self.assertEqual(str(Look("c", "p").ear("c")), "~false")
        self.assertEqual(str(Look("c", "p", dim="p | q").ear("c")), "~(p | q)")
        self.assertEqual(str(Look("c", "p", dim="true").ear("a")), "false")
        self.assertEqual(str(Hint("c", "p").ear("c")), "true")
        self.assertEqual(str(Tell("c", "p", c="q", lies="true").ear("c")), "true")
        self.assertEqual(str(Voice("p", c="q").ear("c")), "q")
        self.assertEqual(str(Call("p", c="true & true").ear("c")), "true & true")
        self.assertEqual(str(Deed(c="q").ear("c")), "q")

    def test_the_ear_of_a_turn(self):
        deed = Turn("p", Look("a", "q"), Letter("b", "a", "p", lost="q"))
        self.assertEqual(deed.ear("a"), Or(And(Fact("p"), Not(Truth(False))), And(Not(Fact("p")), Not(Fact("q")))))
        self.assertEqual(str(deed.ear("b")), "p & false | ~p & true")
        self.assertEqual(str(deed.ear("g")), "p & false | ~p & false")
        self.assertEqual(str(Turn("p | q", Deed(), Deed()).ear("a")), "(p | q) & false | ~(p | q) & false")

    def test_ears_of_strings_that_are_no_letters(self):
        for deed in (Deed(), Voice("p"), Hint("a", "p"), Tell("a", "p"), Letter("a", "b", "p"), Look("a", "p"),
                     Call("p"), Turn("p", Deed(), Look("a", "p"))):
            for letter in NO_LETTERS:
                self.assert_error(BadLetter(letter), deed.ear, letter)

    def test_letters_and_facts_by_hand(self):
        deed = Letter("c", "a", "[bd]q & r", lies="s", lost="p", h="t", g="false", a="u", c="v")
        self.assertEqual((deed.letters(), deed.facts()), ("abcdh", ["p", "q", "r", "s", "t"]))
        self.assertEqual((Deed().letters(), Deed().facts()), ("", []))
        self.assertEqual((Deed(b="p", a="(false)").letters(), Deed(b="p").facts()), ("b", ["p"]))
        self.assertEqual(Voice("[c]p | [a*]q").letters(), "ac")
        self.assertEqual((Look("d", "q", dim="p").letters(), Look("d", "q", dim="p").facts()), ("d", ["p", "q"]))
        turn = Turn("z", Tell("b", "x"), Look("a", "y"))
        self.assertEqual((turn.letters(), turn.facts()), ("ab", ["x", "y", "z"]))

    def test_letters_facts_ears_and_texts_by_the_words_of_the_document(self):
        for source, told in some_deeds(62, 480):
            as_text = source.random() < 0.5
            deed = made(told, as_text)
            self.assertEqual((deed.letters(), deed.facts()), named_in(told), str(deed))
            self.assertEqual(str(deed), text_of(told))
            self.assertEqual(deed.KIND, told["kind"])
            for name in ("who", "to", "what", "lies", "lost", "dim", "when"):
                if name in told:
                    self.assertEqual(getattr(deed, name), told[name])
            if told["kind"] not in ("turn", "look"):
                people = [told[name] for name in ("who", "to") if name in told]
                for letter in "abcdefgh":
                    if letter not in people:
                        self.assertEqual(deed.ear(letter), effective_ears(told).get(letter, Truth(False)))
            if not as_text and "what" in told:
                self.assertIs(deed.what, told["what"])

    def test_kinds_and_attributes(self):
        kinds = {Deed: "none", Voice: "voice", Hint: "hint", Tell: "tell", Letter: "letter"}
        for one, kind in kinds.items():
            self.assertEqual(one.KIND, kind)
            self.assertTrue(issubclass(one, Deed))
        self.assertEqual([one.__bases__ for one in (Voice, Hint, Tell, Letter)], [(Deed,), (Deed,), (Hint,), (Tell,)])
        deed = Letter("a", "b", "[c]p", lies="p|q", lost=Fact("q"))
        self.assertEqual((deed.who, deed.to), ("a", "b"))
        self.assertEqual((deed.what, deed.lies, deed.lost), (Knows("c", Fact("p")), Or(Fact("p"), Fact("q")), Fact("q")))
        self.assertEqual((Tell("a", "p").lies, Letter("a", "b", "p").lost), (Truth(False), Truth(False)))

    def test_what_is_passed_later_has_no_effect(self):
        ears = {"a": "p"}
        deed = Voice("q", **ears)
        ears["a"] = "q"
        self.assertEqual(str(deed), "voice: q / a: p")
        self.assert_fresh_list(deed.facts)
        self.assert_fresh_list(deed.said, TABLE)
        self.assert_fresh_list(deed.heard, TABLE, "a")


class Telling(Checks):
    def test_aloud(self):
        self.assertEqual(str(Tell.aloud("a", "p", "bc")), "tell a: p / b: true / c: true")
        self.assertEqual(str(Tell.aloud("a", "p", "cbcacb")), "tell a: p / b: true / c: true")
        self.assertEqual(str(Tell.aloud("a", Fact("p"), "")), "tell a: p")
        self.assertEqual(str(Tell.aloud("a", "[b]p", "aa")), "tell a: [b]p")

    def test_into(self):
        self.assertEqual(str(Tell.into("a", "b", "p")), "tell a: p / b: true")
        self.assertEqual(str(Tell.into("a", "a", "p")), "tell a: p")

    def test_called_off_a_letter_they_return_a_tell(self):
        for deed in (Letter.aloud("a", "p", "b"), Letter.into("a", "b", "p"), Tell.aloud("a", "p", "b"),
                     Tell.into("a", "b", "p"), Letter("a", "b", "p").aloud("a", "p", "b")):
            self.assertIs(type(deed), Tell)
            self.assertEqual(deed, Tell("a", "p", b="true"))
            self.assertEqual(deed.lies, Truth(False))

    def test_errors_in_their_order(self):
        for call in (Tell.aloud, Letter.aloud):
            for who in NO_LETTERS:
                for people, wrong in (("hig", "i"), ("a-z", "-"), ("~bA", "A"), ("b a", " ")):
                    self.assert_errors_in_order(
                        call, {"who": "a", "what": "p", "people": "bc"}, ({"what": "p)"}, BadSaying(1)),
                        ({"who": who}, BadLetter(who)), ({"people": people}, BadLetter(wrong)))
        for call in (Tell.into, Letter.into):
            for who in NO_LETTERS:
                for to in NO_LETTERS + ("lies", "lost", "what", "cls"):
                    self.assert_errors_in_order(
                        call, {"who": "a", "to": "b", "what": "p"}, ({"what": ""}, BadSaying(0)),
                        ({"who": who}, BadLetter(who)), ({"to": to}, BadLetter(to)))


class WrongDeeds(Checks):
    def test_errors_of_a_letter_in_their_order(self):
        good = {"who": "a", "to": "b", "what": "[c]p", "lies": "p", "lost": "q", "c": "true", "e": "p"}
        for name in ("what", "lies", "lost", "c", "e"):
            self.assert_error(BadSaying(3), Letter, **{**good, name: "p &"})
        self.assert_errors_in_order(
            Letter, good, ({"who": "i"}, BadLetter("i")), ({"to": ""}, BadLetter("")), ({"dim": "q"}, BadLetter("dim")),
            ({"lies": "[a]p"}, NotPlain("[a]p")), ({"lost": "q | [bc?]p"}, NotPlain("q | [bc?]p")),
            ({"c": "[a*]true"}, NotPlain("[a*]true")), ({"e": "~[b]p"}, NotPlain("~[b]p")))
        self.assert_errors_in_order(
            Letter, good, ({"to": "a"}, BadLetter("a")), ({"i": "[a]q"}, BadLetter("i")),
            ({"lies": "[a]p"}, NotPlain("[a]p")))

    def test_texts_are_read_first(self):
        good = {"who": "a", "to": "b", "what": "p", "lies": "p", "lost": "q", "c": "true"}
        wrong = [{"who": "i"}, {"to": "a"}, {"to": "z"}, {"z": "p"}, {"lies": "[a]p"}, {"lost": "[a]p"}, {"c": "[a]p"}]
        for changes in wrong:
            for name, text, place in (("what", "", 0), ("lies", "p q", 2), ("lost", "[ba]p", 2), ("c", "~", 1),
                                      ("e", "(p", 2), ("dim", "p$", 1), ("zz", ")", 0)):
                if name not in changes:
                    self.assert_error(BadSaying(place), Letter, **{**good, **changes, name: text})

    def test_the_order_of_the_texts(self):
        texts = {"what": "p)", "lies": "pp)", "lost": "ppp)", "B": "pppp)", "c": "ppppp)", "d": "pppppp)"}
        for place, name in enumerate(list(texts)):
            told = {key: text for key, text in texts.items() if list(texts).index(key) >= place}
            self.assert_error(BadSaying(place + 1), Letter, "a", "b", **{"what": "p", **told})
        self.assert_error(BadSaying(1), Voice, "p)", a="pp)")
        self.assert_error(BadSaying(2), Voice, "p", b="ppp)", a="pp)")
        self.assert_error(BadSaying(1), Tell, "a", "p)", lies="pp)")
        self.assert_error(BadSaying(2), Hint, "i", "p", lies="pp)", who2="ppp)")
        self.assert_error(BadSaying(2), Deed, b="ppp)", a="pp)")

    def test_letters_that_are_refused(self):
        for letter in NO_LETTERS:
            self.assert_error(BadLetter(letter), Hint, letter, "p")
            self.assert_error(BadLetter(letter), Tell, letter, "p", i="p")
            self.assert_error(BadLetter(letter), Letter, letter, letter, "p")
            self.assert_error(BadLetter(letter), Letter, "a", letter, "p")
        self.assert_error(BadLetter("a"), Letter, "a", "a", "p")
        self.assert_error(BadLetter("a"), Letter, "a", "a", "p", lost="[b]p", i="p", A="q")
        self.assert_error(BadLetter("i"), Letter, "i", "i", "p")

    def test_the_letters_of_people_are_eight(self):
        for character in map(chr, range(32, 127)):
            if character in "abcdefgh":
                self.assertEqual(Hint(character, "p").letters(), character)
                self.assertEqual(str(Deed().ear(character)), "false")
                self.assertEqual(House([], [""], **{character: [0]}).people, character)
            else:
                self.assert_error(BadLetter(character), Hint, character, "p")
                self.assert_error(BadLetter(character), Deed, **{character: "true"})
                self.assert_error(BadLetter(character), Deed().ear, character)
                self.assert_error(BadHouse("people"), House, [], [""], **{character: [0]})

    def test_keywords_of_other_classes_are_ears(self):
        for make, keywords in ((Deed, ("who", "what", "lies", "lost", "dim", "to", "when", "first")),
                               (lambda **ears: Voice("p", **ears), ("who", "lies", "lost", "dim")),
                               (lambda **ears: Hint("a", "p", **ears), ("to", "lies", "lost", "dim")),
                               (lambda **ears: Tell("a", "p", **ears), ("to", "lost", "dim")),
                               (lambda **ears: Letter("a", "b", "p", **ears), ("dim", "when", "i", "A", "ab")),
                               (lambda **ears: Call("p", **ears), ("who", "lies", "people"))):
            for keyword in keywords:
                self.assert_error(BadLetter(keyword), make, **{keyword: "p"})
                self.assert_error(BadLetter(keyword), make, **{keyword: "[a]p", "c": "[a]p"})
                self.assert_error(BadSaying(0), make, **{keyword: ""})
        self.assert_error(BadLetter("B"), Deed, z="p", B="p", a="p")
        self.assert_error(BadLetter("lost"), Tell, "a", "p", lost="q", z="p")

    def test_ears_without_effect_are_checked_as_all_others(self):
        self.assert_error(NotPlain("[b]p"), Hint, "a", "p", a="[b]p")
        self.assert_error(NotPlain("[b]p"), Letter, "a", "b", "p", b="[b]p")
        self.assert_error(BadSaying(0), Letter, "a", "b", "p", b="")
        self.assert_error(NotPlain("[a]false"), Voice, "p", a="[a]false")
        self.assert_error(BadLetter("i"), Voice, "p", i="false")

    def test_the_order_of_sayings_that_are_not_plain(self):
        self.assert_error(NotPlain("[a]p"), Tell, "a", "p", lies="[a]p", b="[b]p")
        self.assert_error(NotPlain("[b]p"), Tell, "a", "p", lies="p", c="[c]p", b=" [b] p")
        self.assert_error(NotPlain("[b]p"), Deed, c="[c]p", b="[b]p")

    def test_errors_of_a_deed_in_a_house(self):
        wrong = [(Voice("[de]p & [d]x"), UnknownPerson("d")), (Voice("x & w"), UnknownFact("w")),
                 (Tell("d", "x"), UnknownPerson("d")), (Tell("a", "p", lies="x"), UnknownFact("x")),
                 (Letter("a", "h", "x"), UnknownPerson("h")), (Letter("a", "b", "p", lost="x"), UnknownFact("x")),
                 (Hint("a", "p", e="true"), UnknownPerson("e")), (Deed(a="x"), UnknownFact("x")),
                 (Deed(d="x"), UnknownPerson("d")), (Call("[g*]p"), UnknownPerson("g")), (Call("p", a="x"), UnknownFact("x")),
                 (Look("f", "x"), UnknownPerson("f")), (Look("a", "p", dim="x"), UnknownFact("x")),
                 (Turn("x", Deed(), Tell("d", "p")), UnknownPerson("d")), (Turn("x", Deed(), Deed()), UnknownFact("x")),
                 (Turn("p", Deed(), Voice("x")), UnknownFact("x")), (Turn("p", Voice("y"), Voice("x")), UnknownFact("x"))]
        for deed, error in wrong:
            self.assert_error(error, deed.said, TABLE)
            self.assert_error(error, deed, TABLE)
            for letter in ("a", "d", "", "zz"):
                self.assert_error(error, deed.heard, TABLE, letter)

    def test_ears_without_effect_cause_no_errors_of_the_deed(self):
        for deed in (Tell("a", "p", a="x", h="false"), Letter("a", "b", "p", b="x | y", a="z", g="(false)"), Deed(d="false")):
            self.assertEqual(deed.said(TABLE), deed.said(TABLE))
            self.assertEqual(deed(TABLE).house, HOUSE)

    def test_hearing_of_nobody(self):
        for deed in (Deed(), Voice("p", a="true"), Tell("a", "p"), Look("a", "p"), Turn("p", Deed(), Deed())):
            for letter in ("d", "h") + NO_LETTERS:
                self.assert_error(UnknownPerson(letter), deed.heard, TABLE, letter)


class TextsAndEquality(Checks):
    def test_each_part_in_its_order(self):
        texts = {
            "none": Deed(), "none / a: p / c: true": Deed(c="true", a="p", b="false"),
            "voice: p": Voice("p"), "voice: [a]p | q / b: q": Voice("[a]p|q", b="q"),
            "hint a: p": Hint("a", "p", a="q"), "hint a: p / b: true": Hint("a", "p", b="true"),
            "tell a: p": Tell("a", "p", lies="(false)"), "tell a: p / lies: q": Tell("a", "p", lies="q"),
            "tell b: p / lies: q / a: p": Tell("b", "p", a="p", lies="q", b="q"),
            "letter b a: p": Letter("b", "a", "p"), "letter b a: p / lost: q": Letter("b", "a", "p", lost="q"),
            "letter a b: p / lies: q & q / lost: ~q / c: p / h: q": Letter(
                "a", "b", "p", h="q", c="p", lost="~q", lies="q & q", a="p", b="p"),
            "look a: p & q": Look("a", "p&q"), "look a: p / dim: q": Look("a", "p", dim="q"),
            "call: p": Call("p"), "call: p / a: true / b: q": Call("p", b="q", a="true"),
            "turn p ?? none :: voice: q / a: true": Turn("p", Deed(), Voice("q", a="true")),
            "turn p | q ?? look a: q / dim: p :: tell a: [b?]p / lies: q": Turn(
                "p | q", Look("a", "q", dim="p"), Tell("a", "[b?]p", lies="q")),
            "turn false ?? none :: none": Turn("false", Deed(), Deed()),
        }
        for text, deed in texts.items():
            self.assertEqual(str(deed), text)
        for (one, deed), (two, other) in itertools.product(texts.items(), repeat=2):
            self.assertIs(deed == other, one == two)
            self.assertIs(deed != other, one != two)

    def test_an_ear_that_is_only_true_nowhere_has_an_effect(self):
        self.assertEqual(str(Voice("p", a="q & ~q", b="~true")), "voice: p / a: q & ~q / b: ~true")
        self.assertNotEqual(Voice("p", a="q & ~q"), Voice("p"))
        self.assertEqual(Voice("p", a=" ( false )"), Voice("p"))
        self.assertEqual(Voice("p", a=Truth(False)), Voice("p"))

    def test_deeds_are_like_nothing_else(self):
        for deed in (Deed(), Voice("p"), Tell("a", "p"), Look("a", "p"), Turn("p", Deed(), Deed())):
            self.assert_unlike_other_things(deed)
            self.assertFalse(deed == str(deed))
            self.assertTrue(str(deed) != deed)
            self.assertTrue(deed != deed.ear("a"))

    def test_deeds_are_not_changed(self):
        source = source_of(63)
        for kind in KINDS:
            deed = made(random_told(source, kinds=(kind,)))
            kept = copy.deepcopy(deed)
            table = random_table(source, 4)
            deed(table), deed.said(table), deed.heard(table, "a"), deed.letters(), deed.facts(), deed.ear("h")
            self.assertEqual(deed, kept)
            self.assertEqual(vars(deed).keys(), vars(kept).keys())
            self.assertEqual(str(deed(table)), str(kept(table)))


if __name__ == "__main__":
    unittest.main()
