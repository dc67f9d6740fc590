import unittest

from thinwall.errors import BadLine
from thinwall.forms import format_play, lot_lines, parse_play, table_lines
from thinwall.houses import House
from thinwall.lots import Lot
from thinwall.plays import Play
from thinwall.splits import Split
from thinwall.tables import Table
from oracles import random_house, random_table
from rows import BIG, CUBE, LOT, MUD, PLAY
from support import Checks, source_of
from telling import KINDS, made, random_told

TEXT = "facts p q\ncases 00 01 11\na: 0|1|2\nc: 0,2|1\nb = look a: p\nx = tell a: p & q / c: true\nz = none"
LONG = Play(House(["p"], ["1"] * 11 + ["0"], a=list(range(12)), b=[0] * 12),
            x="tell a: p / b: true", y="tell b: [a]p / a: true")


def lines_with(number, line):
    """The text with another line of this number, counted from 1."""
    lines = TEXT.split("\n")
    lines[number - 1] = line
    return "\n".join(lines)


class BackAndForth(Checks):
    def test_by_chance(self):
        source, kinds = source_of(180), set()
        for _ in range(150):
            facts, letters = source.choice(["p", "pq", "pqrstu"]), source.choice(["a", "bd", "abc", "aceg"])
            # A letter needs two people, and so does a turn, which may hold one.
            told = KINDS if letters != "a" else ("none", "voice", "hint", "tell", "look", "call")
            house = random_house(source, source.randint(1, 12), facts, letters)
            signs = source.sample("abcmxz", source.randint(0, 6))
            play = Play(house, **{sign: made(random_told(source, facts, letters, told)) for sign in signs})
            text = format_play(play)
            self.assertEqual(parse_play(text), play)
            self.assertEqual(format_play(parse_play(text)), text)
            kinds.add((len(play.house.people), len(play) > 0))
        self.assertGreater(len(kinds), 5)

    def test_the_lines(self):
        self.assertEqual(format_play(PLAY), "facts p\ncases 0 1\na: 0|1\nb: 0,1\nc: 0,1\nx = tell a: p / b: true\n"
                                            "y = tell b: p / c: true")
        play = parse_play(TEXT)
        self.assertEqual(format_play(play), TEXT)
        self.assertEqual(play.house, House(["p", "q"], ["00", "01", "11"], a=[0, 1, 2], c=[0, 1, 0]))
        self.assertEqual([play.signs, str(play.deed("x"))], ["bxz", "tell a: p & q / c: true"])
        for other in (PLAY, MUD, CUBE, BIG, LONG):
            self.assertEqual(parse_play(format_play(other)), other)

    def test_no_facts(self):
        play = Play(House([], ["", "", ""], b=[0, 1, 1]), k="none / b: true", m="voice: [b]true / b: true")
        text = "facts\ncases - - -\nb: 0|1,2\nk = none / b: true\nm = voice: [b]true / b: true"
        self.assertEqual(format_play(play), text)
        self.assertEqual(parse_play(text), play)
        self.assertEqual(parse_play("facts\ncases -\nh: 0"), Play(House([], [""], h=[0])))

    def test_greatest_ones(self):
        names = ["abcdefgh", "b", "truer", "falsey", "zzzzzzzz", "d"]
        house = House(names, ["101010"] * 12, a=list(range(12)), b=[0] * 12, g=[0, 1] * 6, h=[0] * 11 + [1])
        play = Play(house, **{sign: f"tell g: [abgh*]({name} | ~b) / a: b / h: true" for sign, name in zip("abcxyz", names)})
        self.assertEqual(parse_play(format_play(play)), play)
        self.assertEqual(len(format_play(play).split("\n")), 12)

    def test_deeds_of_all_kinds(self):
        deeds = ["none / a: p", "voice: ~p | [c]p / c: p", "hint a: [c?]p / c: true", "tell c: p / lies: p / a: true",
                 "letter a c: p / lies: ~p / lost: p", "turn p ?? look a: p / dim: p :: call: [ac*]p / a: true"]
        lines = ["facts p", "cases 0 1", "a: 0|1", "c: 0,1"] + [f"{sign} = {deed}" for sign, deed in zip("aclpqt", deeds)]
        play = parse_play("\n".join(lines))
        self.assertEqual([str(play.deed(sign)) for sign in play.signs], deeds)
        self.assertEqual(format_play(play).split("\n"), lines)


class WrongLines(Checks):
    def test_the_example(self):
        self.assert_error(BadLine(3), parse_play, "facts p\ncases 0 1\nx = none")

    def test_the_first_line(self):
        for line in ("", "fact p", "facts  p q", "facts p q ", " facts p q", "facts p p", "facts P q", "facts p true", "facts pq false",
                     "facts p abcdefghi", "facts p-q", "facts a b c d e f g", "facts ", "Facts p q", "factsp q", "facts p\tq",
                     "cases 00 01 11", "facts p q r\r", "facts \u00e9"):
            self.assert_error(BadLine(1), parse_play, lines_with(1, line))
            self.assert_error(BadLine(1), parse_play, line)
        self.assert_error(BadLine(1), parse_play, "")
        self.assert_error(BadLine(1), parse_play, "\n")
        self.assert_error(BadLine(1), parse_play, "\n" + TEXT)

    def test_the_second_line(self):
        for line in ("", "cases", "cases ", "case 00 01 11", "cases 00  01 11", "cases 00 01 11 ", " cases 00 01 11", "cases 00 01 1",
                     "cases 00 01 111", "cases 00 0x 11", "cases 00 01 -", "cases - - -", "cases" + " 00" * 13, "Cases 00 01 11",
                     "cases00 01 11", "a: 0|1|2", "cases 00,01,11", "cases 00 01 12"):
            self.assert_error(BadLine(2), parse_play, lines_with(2, line))
            self.assert_error(BadLine(2), parse_play, "facts p q\n" + line)
        for line in ("cases", "cases ", "cases 0", "cases - ", "cases  -", "cases --", "cases - 1", "cases" + " -" * 13, "cases -  -"):
            self.assert_error(BadLine(2), parse_play, f"facts\n{line}\na: 0,1")
        # The facts come first.
        self.assert_error(BadLine(1), parse_play, "facts p p\ncases 0x\na: 1")

    def test_the_line_of_a_person(self):
        for line in ("", "a:0|1|2", "a : 0|1|2", "A: 0|1|2", "i: 0|1|2", "aa: 0|1|2", ": 0|1|2", "a:  0|1|2", "a: 0|1|2 ", " a: 0|1|2",
                     "a: 0|1", "a: 0|1|2|3", "a: 0|2|1", "a: 1|0,2", "a: 0,1,2,", "a: ", "a:", "a: x", "a: 00|1|2", "a = 0|1|2",
                     "a; 0|1|2", "facts p", "?: 0|1|2", "a: 0,1|2\r", "a: +0|1|2", "a: -1|0|1"):
            self.assert_error(BadLine(3), parse_play, lines_with(3, line))
        for line in ("a: 0|1|2", "a: 0,1,2"):
            self.assert_error(BadLine(4), parse_play, lines_with(4, line))
        self.assert_error(BadLine(4), parse_play, "facts\ncases - -\nc: 0|1\nb: 0|1")
        self.assert_error(BadLine(4), parse_play, "facts\ncases - -\nc: 0|1\nc: 0|1\nc: 0|1")
        people = [f"{letter}: 0,1" for letter in "abcde"]
        self.assertEqual(parse_play("\n".join(["facts", "cases - -"] + people[:4])).house.people, "abcd")
        self.assert_error(BadLine(7), parse_play, "\n".join(["facts", "cases - -"] + people))
        # A deed stands before it.
        self.assert_error(BadLine(6), parse_play, lines_with(6, "d: 0,1,2"))
        self.assert_error(BadLine(8), parse_play, TEXT + "\nd: 0,1,2")

    def test_the_line_of_a_deed(self):
        for line in ("", "x= none", "x =none", "x  = none", "X = none", "1 = none", "xx = none", " x = none", "x = none ", "x = ",
                     "x =", "= none", "x = tell a p", "x = tell a:  p", "x = tell a: p & (q)", "x = tell a: (p)", "x = look d: p",
                     "x = look b: p", "x = look a: r", "x = tell a: p / h: true", "x = tell a: [d]p", "x = turn p ?? none :: look b: p",
                     "x = voice: p / b: true", "x = none / a: r", "x = Tell a: p", "x: none", "x = tell i: p", "x = letter a a: p",
                     "x = look a: [a]p", "x = none\r", "x = tell a: true & true & s"):
            self.assert_error(BadLine(6), parse_play, lines_with(6, line))
        for line in ("b = none", "a = none", "c = none\nb = none"):
            self.assert_error(BadLine(6 + line.count("\n")), parse_play, lines_with(6, line))
        self.assert_error(BadLine(7), parse_play, lines_with(7, "x = none"))
        deeds = [f"{sign} = none" for sign in "abcdefg"]
        self.assertEqual(parse_play("\n".join(["facts", "cases -", "a: 0"] + deeds[:6])).signs, "abcdef")
        self.assert_error(BadLine(10), parse_play, "\n".join(["facts", "cases -", "a: 0"] + deeds))
        # No person stands before it.
        self.assert_error(BadLine(3), parse_play, "facts p\ncases 0\nx = none\na: 0")
        # Only the people above it are there.
        self.assertEqual(parse_play("facts p\ncases 0\na: 0\nx = look a: p").signs, "x")

    def test_texts_that_end_too_early(self):
        lines = TEXT.split("\n")
        self.assert_error(BadLine(2), parse_play, lines[0])
        self.assert_error(BadLine(3), parse_play, "\n".join(lines[:2]))
        self.assert_error(BadLine(2), parse_play, "facts")
        self.assert_error(BadLine(2), parse_play, "facts\n")
        self.assert_error(BadLine(3), parse_play, "facts\ncases -\n")
        for many in range(3, len(lines) + 1):
            text = "\n".join(lines[:many])
            self.assertEqual(format_play(parse_play(text)), text)
            # A newline at the end makes an empty last line.
            self.assert_error(BadLine(many + 1), parse_play, text + "\n")
            self.assert_error(BadLine(many + 1), parse_play, text + "\n\n")
            self.assert_error(BadLine(many + 1), parse_play, text + "\n ")
        for at in range(len(lines)):
            self.assert_error(BadLine(at + 1), parse_play, "\n".join(lines[:at] + [""] + lines[at:]))

    def test_each_spoilt_character(self):
        source = source_of(181)
        for text in (TEXT, format_play(MUD), format_play(PLAY)):
            for at in range(len(text)):
                for other in (source.choice("abcpqx01:|,= -\n~[]"), "", text[at] * 2):
                    spoilt = text[:at] + other + text[at + 1:]
                    try:
                        found = format_play(parse_play(spoilt))
                    except BadLine as error:
                        # All lines before the wrong one are right: they can stand before an end that is right.
                        lines = spoilt.split("\n")
                        self.assertIn(error.line, range(1, len(lines) + 2))
                        self.assertEqual(self.wrong_line(lines), error.line, spoilt)
                        found = spoilt
                    self.assertEqual(found, spoilt)

    def wrong_line(self, lines):
        """The first line such that the text up to it cannot be completed by any end."""
        for many in range(1, len(lines) + 1):
            if not self.can_go_on(lines[:many]):
                return many
        return len(lines) + 1

    def can_go_on(self, lines):
        ends = [[]]
        if len(lines) == 1:
            ends = [["cases " + ("-" if lines[0] == "facts" else "0" * lines[0].count(" ")), "a: 0"]]
        elif len(lines) == 2:
            ends = [["a: " + ",".join(str(case) for case in range(lines[1].count(" ")))]]
        for end in ends:
            try:
                parse_play("\n".join(lines + end))
                return True
            except BadLine:
                pass
        return False


class Tables(Checks):
    def test_the_example(self):
        play = parse_play("facts p\ncases 0 1\na: 0|1\nb: 0,1\nx = look b: p")
        self.assertEqual(table_lines(play.start), [" 0 0       0  0", " 1 1       1  0"])
        self.assertEqual(table_lines(play.after("x")), [" 0 0       0  0", " 1 1       1  1"])

    def test_by_chance(self):
        source = source_of(182)
        for _ in range(60):
            facts, letters = source.choice(["", "p", "pqr", "pqrstu"]), source.choice(["a", "bd", "abc", "aceg"])
            table = random_table(source, source.randint(1, 12), facts, letters)
            wanted = []
            for case, row in enumerate(table.house.rows()):
                line = str(case).rjust(2) + " " + (row or "-").ljust(6)
                for letter in letters:
                    place = [case in cell for cell in table.view(letter).cells()].index(True)
                    line += " " + str(place).rjust(2)
                wanted.append(line)
            self.assertEqual(table_lines(table), wanted)

    def test_twelve_cells_and_no_facts(self):
        table = Table(House([], [""] * 12, a=[0] * 12, h=[0] * 12), a=Split.apart(12))
        self.assertEqual(table_lines(table)[0], " 0 -       0  0")
        self.assertEqual(table_lines(table)[11], "11 -      11  0")
        self.assert_fresh_list(table_lines, table)


class Lots(Checks):
    def test_by_hand(self):
        self.assertEqual(lot_lines(LOT), ["   0 -          2", "   1 x          1", "   2 xy         0"])
        lines = lot_lines(Lot(CUBE))
        self.assertEqual([lines[0], lines[1], lines[63]], ["   0 -          6", "   1 a          5", "  63 abcdef     0"])
        lines = lot_lines(Lot(LONG))
        self.assertEqual(lines[0], "   0 -         11")

    def test_long_names(self):
        # From the end, where b knows all, each deed tells one of the two a little more.
        house = House(["q"], ["1", "0"] * 6, a=[case // 2 for case in range(12)], b=[0, 0, 0, 1, 1, 2, 2, 3, 3, 4, 4, 5])
        lot = Lot(Play(house, x="voice: [b?]q / a: true", y="voice: [a?]q / b: true"))
        lines = lot_lines(lot)
        longest = max(lot.names(), key=len)
        self.assertEqual(longest, "xyxyxyxyxy")
        for number, (name, table) in enumerate(lot.walk()):
            self.assertEqual(lines[number], str(number).rjust(4) + " " + (name or "-").ljust(8) + " " + str(table.room).rjust(3))
        self.assertIn(f" {longest} ", lines[lot.names().index(longest)])
        self.assert_fresh_list(lot_lines, lot)


if __name__ == "__main__":
    unittest.main()
