import itertools
import unittest

from thinwall.errors import BadGroup, BadKey, SizeMismatch, UnknownPerson, UnlikeHouses
from thinwall.houses import House
from thinwall.splits import Split
from thinwall.tables import Table
from oracles import random_table, reached
from support import HUGE, Checks, random_split, source_of

HOUSE = House(["p"], ["0", "1", "1", "0"], a=[0, 0, 1, 1], b=[0, 1, 1, 0], c=[0, 0, 0, 1])
NO_PEOPLE = ("d", "", "ab", "A", "z", "letter")


class MakingTables(Checks):
    def test_splits_that_are_passed_and_eyes(self):
        start = Table(HOUSE)
        self.assertIs(start.house, HOUSE)
        self.assertEqual([start.view(letter) for letter in "abc"], [HOUSE.eyes(letter) for letter in "abc"])
        table = Table(HOUSE, b=Split.whole(4))
        self.assertEqual(str(table), "a:0,1|2,3 b:0,1,2,3 c:0,1,2|3")
        table = Table(HOUSE, c=Split.apart(4), a=Split.whole(4), b=Split([0, 0, 0, 1]))
        self.assertEqual(str(table), "a:0,1,2,3 b:0,1,2|3 c:0|1|2|3")

    def test_the_text_of_a_table_for_one_person(self):
        self.assertEqual(str(Table(House([], [""], h=[3]))), "h:0")

    def test_errors_in_their_order(self):
        for letter in NO_PEOPLE:
            self.assert_error(UnknownPerson(letter), Table, HOUSE, **{letter: Split.whole(4)})
            self.assert_error(UnknownPerson(letter), Table, HOUSE, **{"a": Split.whole(3), letter: Split.whole(3)})
        self.assert_error(UnknownPerson("d"), Table, HOUSE, z=Split.whole(4), e=Split.whole(4), d=Split.whole(4))
        self.assert_error(UnknownPerson("Z"), Table, HOUSE, d=Split.whole(4), Z=Split.whole(4))
        self.assert_error(SizeMismatch(4, 3), Table, HOUSE, a=Split.whole(3))
        self.assert_error(SizeMismatch(4, 5), Table, HOUSE, c=Split.whole(3), b=Split.whole(5), a=Split.whole(4))

    def test_keyed(self):
        source = source_of(15)
        for _ in range(50):
            table = random_table(source, source.randint(1, 12))
            self.assertEqual(table.key, tuple(tuple(table.view(letter).marks()) for letter in table.house.people))
            self.assertEqual(Table.keyed(table.house, table.key), table)
        self.assertEqual(Table(HOUSE).key, ((0, 0, 2, 2), (0, 1, 1, 0), (0, 0, 0, 3)))
        self.assertIsInstance(Table.keyed(HOUSE, Table(HOUSE).key).key, tuple)

    def test_keys_of_no_table(self):
        good = Table(HOUSE).key
        for key in ((), good[:2], good + good[:1], good[:2] + ((),), good[:2] + ((0, 0, 0),), good[:2] + ((0,) * 5,),
                    good[:2] + ((0, 0, 0, 2),), good[:2] + ((1, 1, 1, 1),), good[:2] + ((0, 1, 0, -1),),
                    good[:2] + ((0, 0, 0, HUGE),), ((-HUGE, 0, 0, 0),) + good[1:], good[:2] + ((0, 2, 2, 3),),
                    ((0,) * 13,) + good[1:], good[:1] * 4, ((0, 0, 1, 1),) + good[1:]):
            self.assert_error(BadKey(), Table.keyed, HOUSE, key)
        one = House([], [""], a=[0])
        self.assertEqual(Table.keyed(one, ((0,),)), Table(one))
        for key in ((), ((),), ((1,),), ((0, 0),), ((0,), (0,))):
            self.assert_error(BadKey(), Table.keyed, one, key)


class AskingTables(Checks):
    def test_view(self):
        for letter in NO_PEOPLE:
            self.assert_error(UnknownPerson(letter), Table(HOUSE).view, letter)
        self.assertEqual(Table(HOUSE, a=Split.whole(4)).view("a"), Split.whole(4))

    def test_pooled_and_shared(self):
        source = source_of(16)
        for _ in range(40):
            table = random_table(source, source.randint(1, 8))
            for group in ("a", "b", "c", "ab", "ac", "bc", "abc"):
                splits = [table.view(letter) for letter in group]
                for one, other in itertools.product(range(table.house.size), repeat=2):
                    self.assertIs(table.pooled(group).together(one, other),
                                  all(split.together(one, other) for split in splits))
                    self.assertIs(table.shared(group).together(one, other), other in reached(table, group, one))
        self.assertEqual(Table(HOUSE).pooled("ab"), Split.apart(4))
        self.assertEqual(Table(HOUSE).shared("ab"), Split.whole(4))
        self.assertEqual(Table(HOUSE).shared("c"), HOUSE.eyes("c"))

    def test_groups_that_are_refused(self):
        table = Table(HOUSE)
        for call in (table.pooled, table.shared):
            for group in ("", "ba", "aa", "i", "A", "ad?", "dda", "abz"):
                self.assert_error(BadGroup(group), call, group)
            self.assert_error(UnknownPerson("d"), call, "d")
            self.assert_error(UnknownPerson("d"), call, "abdh")

    def test_room(self):
        self.assertEqual(Table(HOUSE).room, 6)
        self.assertEqual(Table(HOUSE, a=Split.whole(4), b=Split.whole(4), c=Split.whole(4)).room, 9)
        self.assertEqual(Table(HOUSE, a=Split.apart(4), b=Split.apart(4), c=Split.apart(4)).room, 0)

    def test_key_and_room_are_read_only(self):
        for name in ("key", "room"):
            self.assertRaises(AttributeError, setattr, Table(HOUSE), name, 1)

    def test_finer(self):
        source = source_of(17)
        found = []
        for _ in range(60):
            one = random_table(source, 4)
            other = Table(one.house, **{letter: source.choice([one.view(letter) | random_split(source, 4),
                                                              random_split(source, 4)]) for letter in "abc"})
            wanted = all(one.view(letter).finer(other.view(letter)) for letter in "abc")
            self.assertIs(one.finer(other), wanted)
            self.assertIs(one.finer(one), True)
            found.append(wanted)
        self.assertIn(True, found)
        self.assertIn(False, found)
        for part in (House(["p"], ["0"], a=[0], b=[0], c=[0]), House(["q"], HOUSE.rows(), a=[0] * 4, b=[0] * 4, c=[0] * 4),
                     House(["p"], HOUSE.rows(), a=[0, 0, 1, 1])):
            self.assert_error(UnlikeHouses("house"), Table(HOUSE).finer, Table(part))

    def test_parted(self):
        table = Table(HOUSE)
        parted = table.parted(b=["yes", "yes", "no", "no"])
        self.assertEqual(str(parted), "a:0,1|2,3 b:0|1|2|3 c:0,1,2|3")
        self.assertIs(parted.house, HOUSE)
        self.assertEqual(str(table), "a:0,1|2,3 b:0,3|1,2 c:0,1,2|3")
        both = parted.parted(c=[1, 2, 1, 1], a=[HUGE, HUGE, 0, HUGE])
        self.assertEqual(str(both), "a:0,1|2|3 b:0|1|2|3 c:0,2|1|3")
        self.assertEqual(table.parted(), table)
        self.assertEqual(table.parted(a=["-"] * 4), table)

    def test_wrong_words(self):
        table = Table(HOUSE)
        for letter in NO_PEOPLE + ("house",):
            self.assert_error(UnknownPerson(letter), table.parted, **{letter: ["-"] * 4})
            self.assert_error(UnknownPerson(letter), table.parted, **{letter: ["-"], "a": ["-"]})
        self.assert_error(UnknownPerson("d"), table.parted, e=["-"] * 4, d=["-"] * 4)
        self.assert_error(SizeMismatch(4, 3), table.parted, a=["-"] * 3)
        self.assert_error(SizeMismatch(4, 0), table.parted, c=["-"] * 5, b=[], a=["-"] * 4)
        words = {"a": ["x", "y", "x", "y"]}
        parted = self.assert_leaves_arguments(table.parted, **words)
        words["a"][0] = "y"
        self.assertEqual(str(parted.view("a")), "0|1|2|3")

    def test_equal_tables(self):
        other = House(["p"], ["0", "1", "1", "1"], a=[0, 0, 1, 1], b=[0, 1, 1, 0], c=[0, 0, 0, 1])
        finer = House(["p"], HOUSE.rows(), a=[0, 1, 2, 3], b=[0, 1, 1, 0], c=[0, 0, 0, 1])
        self.assertTrue(Table(HOUSE) == Table(HOUSE, a=HOUSE.eyes("a")))
        self.assertFalse(Table(HOUSE) != Table(HOUSE, a=HOUSE.eyes("a")))
        different = [Table(HOUSE), Table(other), Table(HOUSE, a=Split.apart(4)), Table(finer),
                     Table(HOUSE, b=HOUSE.eyes("a"), a=HOUSE.eyes("b"))]
        for one, two in itertools.product(different, different):
            self.assertIs(one == two, one is two)
            self.assertIs(one != two, one is not two)

    def test_a_table_is_like_no_other_thing(self):
        self.assert_unlike_other_things(Table(HOUSE))
        self.assertFalse(Table(HOUSE) == HOUSE)
        self.assertFalse(Table(HOUSE) == Table(HOUSE).key)
        self.assertTrue(Table(HOUSE) != str(Table(HOUSE)))


if __name__ == "__main__":
    unittest.main()
