import unittest

from thinwall.errors import (BadCount, BadName, BadSaying, DuplicateSite, TooMany, UnknownDeed, UnknownFact, UnknownLink,
                             UnknownPerson, UnknownSite)
from thinwall.closing import joint
from thinwall.houses import House
from thinwall.plays import Play
from thinwall.sayings import Fact, Knows
from thinwall.streets import Street
from roads import NAMES, random_link, random_note, random_told, some_streets
from rows import HOUSE, PLAY
from support import HUGE, Checks, source_of

# The same people as in PLAY without c, and another fact.
SMALL = Play(House(["q"], ["1", "0"], a=[0, 0], b=[0, 1]), x="look a: q", z="tell a: q / b: true")


def street_of_two():
    street = Street()
    street.add_site("inn", PLAY, row="xy")
    street.add_site("barn", SMALL)
    return street


class Sites(Checks):
    def test_no_site_one_and_five(self):
        street = Street()
        self.assertEqual([len(street), street.names(), street.links(), "inn" in street], [0, [], [], False])
        for many, name in enumerate(NAMES, 1):
            self.assertIs(name in street, False)
            self.assertIsNone(street.add_site(name, PLAY))
            self.assertEqual([len(street), street.names(), name in street], [many, sorted(NAMES[:many]), True])
        self.assert_error(TooMany(5), street.add_site, "sixth", PLAY)
        self.assert_error(TooMany(5), street.add_site, "sixth", PLAY, row="-")
        self.assertEqual(street.names(), ["a", "barn", "inn", "mill", "zoo"])
        for name in ("", "INN", "inn ", "in", "?", "innn"):
            self.assertIs(name in street, False)
        self.assert_fresh_list(street.names)

    def test_rows_told_at_the_beginning_and_deed_by_deed(self):
        street = street_of_two()
        self.assertEqual([street.told("inn"), street.told("barn")], ["xy", ""])
        self.assertEqual([street.table_at("inn"), street.table_at("barn")], [PLAY.after("xy"), SMALL.start])
        for sign in "zxz":
            self.assertIsNone(street.tell("barn", sign))
        self.assertEqual([street.told("barn"), street.table_at("barn")], ["zxz", SMALL.after("zxz")])
        self.assertEqual([street.told("inn"), street.table_at("inn")], ["xy", PLAY.after("xy")])
        street.tell("inn", "x")
        self.assertEqual(street.told("inn"), "xyx")
        other = Street()
        other.add_site("one", PLAY, row="xyx")
        self.assertEqual(other.table_at("one"), street.table_at("inn"))

    def test_against_a_plain_list(self):
        for source, told in some_streets(150, 120):
            self.check_all(told)
            for _ in range(4):
                if not told.names():
                    break
                name = source.choice(told.names())
                step = source.choice(["tell", "note", "forget", "link", "unlink"])
                if step == "tell":
                    told.tell(name, source.choice("st"))
                elif step == "note":
                    random_note(source, told, name)
                elif step == "forget":
                    self.assertIsNone(told.street.forget(name))
                    told.notes[name] = []
                elif step == "link":
                    random_link(source, told)
                elif told.links:
                    number = source.choice(list(told.links))
                    self.assertIsNone(told.street.unlink(number))
                    del told.links[number]
                self.check_all(told)

    def check_all(self, told):
        street = told.street
        self.assertEqual((len(street), street.names(), street.links()), (len(told.plays), told.names(), sorted(told.links)))
        for name in told.names():
            self.assertEqual(street.told(name), told.rows[name])
            self.assertEqual(street.table_at(name), told.table(name))
            self.assertEqual(street.open_cases(name), told.open(name))
        choices = told.joint_choices()
        self.assertEqual(joint(street), choices[0] if choices else None)


class Notes(Checks):
    def test_words_and_any_words(self):
        street = street_of_two()
        self.assertEqual(street.open_cases("inn"), [0, 1])
        for words, cases in (([], [0, 1]), (["?", "?"], [0, 1]), (["-"], [0, 1]), (["-", "yes"], [1]), (["?", "no"], [0]),
                             (["yes"], []), (["-", "unsure"], []), (["?"], [0, 1])):
            self.assertIsNone(street.note("inn", "c", words))
            self.assertEqual(street.open_cases("inn"), cases, words)
            self.assertIsNone(street.forget("inn"))
            self.assertEqual(street.open_cases("inn"), [0, 1])
        self.assert_fresh_list(street.open_cases, "inn")

    def test_several_notes_and_later_deeds(self):
        street = Street()
        street.add_site("inn", SMALL, row="z")
        street.note("inn", "b", ["?"])
        street.note("inn", "b", ["unsure"])
        self.assertEqual(street.open_cases("inn"), [0, 1])
        street.tell("inn", "x")
        street.tell("inn", "z")
        self.assertEqual(street.open_cases("inn"), [0, 1])
        street.note("inn", "a", ["unsure", "yes"])
        self.assertEqual(street.open_cases("inn"), [0])
        street.note("inn", "b", ["?", "?", "no"])
        self.assertEqual(street.open_cases("inn"), [])
        street.tell("inn", "x")
        self.assertEqual(street.open_cases("inn"), [])
        street.forget("inn")
        self.assertEqual(street.open_cases("inn"), [0, 1])
        street.note("inn", "b", ["unsure", "-", "no", "-"])
        self.assertEqual(street.open_cases("inn"), [1])

    def test_the_words_are_copied(self):
        street, words = street_of_two(), ["-", "yes"]
        street.note("inn", "c", words)
        self.assertEqual(words, ["-", "yes"])
        words[1] = "no"
        words.append("?")
        self.assertEqual(street.open_cases("inn"), [1])


class Links(Checks):
    def test_numbers_are_never_used_again(self):
        street = street_of_two()
        self.assertEqual([street.link("inn", "p", "barn", "q") for _ in range(3)], [0, 1, 2])
        self.assertIsNone(street.unlink(2))
        self.assertEqual(street.links(), [0, 1])
        self.assertEqual(street.link("inn", Fact("p"), "inn", "[a]p"), 3)
        self.assertIsNone(street.unlink(0))
        self.assertEqual(street.links(), [1, 3])
        for number in (1, 3):
            street.unlink(number)
        self.assertEqual([street.links(), street.link("barn", "true", "inn", "p"), street.links()], [[], 4, [4]])
        self.assert_fresh_list(street.links)
        for number in (0, 1, 2, 3, 5, -1, HUGE, -HUGE):
            self.assert_error(UnknownLink(number), street.unlink, number)

    def test_they_speak_of_the_tables_of_now(self):
        street = Street()
        street.add_site("inn", PLAY)
        street.link("inn", "true", "inn", "[b]p")
        self.assertIsNone(joint(street))
        street.tell("inn", "x")
        self.assertEqual(joint(street), [1])
        street.link("inn", Knows("b", Fact("p")), "inn", "[c]p")
        self.assertIsNone(joint(street))
        street.tell("inn", "y")
        self.assertEqual(joint(street), [1])

    def test_two_ways(self):
        street = street_of_two()
        street.link("inn", "p", "barn", "q")
        street.link("inn", "~p", "barn", "~q")
        self.assertEqual(joint(street), [0, 1])
        street.link("barn", "q", "inn", "~p")
        self.assertEqual(joint(street), [1, 0])
        street.link("barn", "~q", "inn", "p")
        self.assertIsNone(joint(street))


class Errors(Checks):
    def test_add_site(self):
        for name in ("", "Inn", "inn1", "abcdefghi", "true", "false", "a b", "\u00e9"):
            street = street_of_two()
            self.assert_errors_in_order(lambda **given: street_of_two().add_site(**given), {"name": "new", "play": PLAY, "row": "x"},
                                        ({"name": name}, BadName(name)), ({"row": "xz"}, UnknownDeed("z", 1)))
            self.assert_error(BadName(name), street.add_site, name, PLAY)
        self.assert_errors_in_order(lambda **given: street_of_two().add_site(**given), {"name": "new", "play": PLAY, "row": "x"},
                                    ({"name": "inn"}, DuplicateSite("inn")), ({"row": "-"}, UnknownDeed("-", 0)))
        full = Street()
        for name in NAMES:
            full.add_site(name, PLAY)
        self.assert_error(BadName("true"), full.add_site, "true", PLAY, row="q")
        self.assert_error(DuplicateSite("zoo"), full.add_site, "zoo", PLAY, row="q")
        self.assert_error(TooMany(5), full.add_site, "new", PLAY, row="q")

    def test_one_site(self):
        street = street_of_two()
        for name in ("new", "", "IN", "inn barn", "in"):
            for method in (street.told, street.table_at, street.open_cases, street.forget):
                self.assert_error(UnknownSite(name), method, name)
            for sign in ("q", "", "xy", "X"):
                self.assert_errors_in_order(street.tell, {"name": "barn", "sign": "x"}, ({"name": name}, UnknownSite(name)),
                                            ({"sign": sign}, UnknownDeed(sign, 0)))
            for letter in ("c", "", "ab", "A", "q"):
                for words in ([""] * 99, ["?"] * 100):
                    street = street_of_two()
                    self.assert_errors_in_order(street.note, {"name": "barn", "letter": "a", "words": []},
                                                ({"name": name}, UnknownSite(name)), ({"letter": letter}, UnknownPerson(letter)),
                                                ({"words": words}, BadCount(len(words))))
        self.assert_error(BadCount(3), street.note, "inn", "a", ["?", "?", "?"])
        self.assertIsNone(street.note("inn", "a", ["?", "?"]))
        self.assert_error(BadCount(1), street.note, "barn", "a", ["?"])

    def test_links(self):
        good = {"first": "inn", "saying": "p", "second": "barn", "other": "q"}
        link = street_of_two().link
        for saying, error in (("[dc]q", BadSaying(2)), ("", BadSaying(0))):
            self.assert_errors_in_order(link, good, ({"saying": saying}, error), ({"other": "q)"}, BadSaying(1)),
                                        ({"first": "new"}, UnknownSite("new")), ({"second": "old"}, UnknownSite("old")))
        for saying, error in (("[d]q", UnknownPerson("d")), ("[c]q", UnknownFact("q")), (Knows("ad", Fact("p")), UnknownPerson("d"))):
            self.assert_errors_in_order(link, good, ({"second": "old"}, UnknownSite("old")), ({"saying": saying}, error),
                                        ({"other": "[c]q"}, UnknownPerson("c")))
            self.assert_errors_in_order(link, good, ({"first": ""}, UnknownSite("")), ({"saying": saying}, error),
                                        ({"other": "[a]p"}, UnknownFact("p")))
        street = street_of_two()
        self.assert_error(UnknownFact("q"), street.link, "inn", "q", "barn", "q")
        self.assertEqual(street.link("barn", "q", "inn", "p"), 0)

    def test_what_raises_an_error_changes_nothing(self):
        source = source_of(151)
        for _ in range(20):
            told = random_told(source)
            street, names = told.street, told.names()
            if not names:
                continue
            for call in (lambda: street.add_site(names[0], PLAY), lambda: street.tell(names[0], "?"),
                         lambda: street.note(names[0], "h", []), lambda: street.note(names[0], "a", ["?"] * 50),
                         lambda: street.link(names[0], "p", names[0], "[h]p"), lambda: street.unlink(99),
                         lambda: street.forget("nobody")):
                with self.assertRaises(ValueError):
                    call()
            Sites.check_all(self, told)
            told.link(names[0], Fact("p"), names[0], Fact("p"))

    def test_streets_are_independent(self):
        one, other = street_of_two(), street_of_two()
        one.tell("inn", "x")
        one.note("inn", "c", ["-", "yes"])
        one.link("inn", "true", "inn", "false")
        self.assertEqual([other.told("inn"), other.open_cases("inn"), other.links()], ["xy", [0, 1], []])
        self.assertEqual(HOUSE, PLAY.house)


if __name__ == "__main__":
    unittest.main()
