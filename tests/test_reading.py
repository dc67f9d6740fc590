import unittest

from thinwall.errors import BadSaying
from thinwall.reading import read_saying, to_saying
from thinwall.sayings import And, Common, Fact, Knows, Not, Or, Truth, Whether
from oracles import first_wrong_place, is_saying_text
from support import Checks, random_saying, source_of


def with_more_signs(source, saying):
    """A text of the saying with spaces and parentheses that are not needed."""
    def part(inner, needed):
        text = with_more_signs(source, inner)
        if needed or source.random() < 0.2:
            text = "(" + gap() + text + gap() + ")"
        return text

    def gap():
        return " " * source.choice([0, 0, 1, 2])

    if isinstance(saying, (Truth, Fact)):
        return gap() + str(saying) + gap()
    if isinstance(saying, (And, Or)):
        sign = "&" if isinstance(saying, And) else "|"
        first = part(saying.first, sign == "&" and isinstance(saying.first, Or))
        second = part(saying.second, isinstance(saying.second, Or) or sign == "&" and isinstance(saying.second, And))
        return first + gap() + sign + gap() + second
    mark = {Knows: "", Whether: "?", Common: "*"}.get(type(saying), "")
    sign = "~" if isinstance(saying, Not) else f"[{saying.group}{mark}]"
    return sign + gap() + part(saying.inner, isinstance(saying.inner, (And, Or)))


class ReadingSayings(Checks):
    def assert_place(self, text, place):
        self.assert_error(BadSaying(place), read_saying, text)
        self.assert_error(BadSaying(place), to_saying, text)

    def test_the_examples(self):
        self.assertEqual(str(read_saying(" [ab*] (p|~ q)&r")), "[ab*](p | ~q) & r")
        self.assert_place("p & [ba]q", 6)

    def test_the_kinds(self):
        for text, kind in {"true": Truth, "p": Fact, "~p": Not, "p&q": And, "p|q": Or, "[a]p": Knows, "[a?]p": Whether,
                           "[a*]p": Common}.items():
            self.assertIs(type(read_saying(text)), kind)
        self.assertIs(read_saying("true").value, True)
        self.assertIs(read_saying("false").value, False)
        self.assertEqual(read_saying("[abcdefgh?]p").group, "abcdefgh")
        self.assertEqual((read_saying("[a*]p").group, read_saying("[bc]p").group), ("a", "bc"))

    def test_what_binds_tighter(self):
        p, q, r, s = (Fact(name) for name in "pqrs")
        known = {
            "p & q & r": (p & q) & r, "p | q | r": (p | q) | r, "p | q & r": p | (q & r), "p & q | r": (p & q) | r,
            "p | q & r | s": (p | (q & r)) | s, "p & q | r & s": (p & q) | (r & s), "~p & q": ~p & q,
            "[a]p | q": Knows("a", p) | q, "~[a]~p & q": ~Knows("a", ~p) & q, "~(p & q) | r": ~(p & q) | r,
            "p & (q | r) & s": (p & (q | r)) & s, "p | (q | (r | s))": p | (q | (r | s)),
            "p & q & r | s & p & q": ((p & q) & r) | ((s & p) & q), "(p | q) & r | s": ((p | q) & r) | s,
        }
        for text, saying in known.items():
            self.assertEqual(str(read_saying(text)), str(saying))

    def test_each_text_reads_back(self):
        source = source_of(10)
        for _ in range(400):
            saying = random_saying(source, source.randint(1, 30), "pqrstu", "abcdefgh")
            self.assertEqual(str(read_saying(str(saying))), str(saying))
            self.assertEqual(read_saying(with_more_signs(source, saying)), saying)

    def test_spaces_and_parentheses(self):
        for text in ("   p", "p   ", "((p))", " ( ( p ) ) ", "~ ~p", "[a] [b?]  ~p", "(true)", "(  (~ (p)))"):
            self.assertEqual(str(read_saying(text)), text.replace(" ", "").replace("(", "").replace(")", ""))
        self.assertEqual(str(read_saying("((p)&((q)))")), "p & q")
        self.assertEqual(str(read_saying("[a]((p&q))")), "[a](p & q)")

    def test_names(self):
        for text in ("truex", "falsex", "tru", "fals", "t", "trueee", "falsetru", "abcdefgh", "truefals", "z", "az", "za", "zzzzzzzz"):
            saying = read_saying(text)
            self.assertIsInstance(saying, Fact)
            self.assertEqual(saying.name, text)
        for text, place in {"abcdefghi": 8, "truefalse": 8, "falsetrue": 8, "p & abcdefghi": 12, "abcdefgh i": 9,
                            "true x": 5, "p q": 2, "pQ": 1, "p1": 1, "A": 0, "truE": 3, "true(": 4}.items():
            self.assert_place(text, place)

    def test_brackets(self):
        for text in ("[a]p", "[h]p", "[ah]p", "[a?]p", "[h*]p", "[abcdefgh*]p"):
            self.assertEqual(str(read_saying(text)), text)
        for text, place in {"[]p": 1, "[?]p": 1, "[*]p": 1, "[i]p": 1, "[ ]p": 1, "[A]p": 1, "[ a]p": 1, "[a ]p": 2,
                            "[a b]p": 2, "[aa]p": 2, "[ba]p": 2, "[ab a]p": 3, "[abb]p": 3, "[ai]p": 2, "[hi]p": 2,
                            "[a?*]p": 3, "[a??]p": 3, "[a*?]p": 3, "[a? ]p": 3, "[a?b]p": 3, "[a?": 3, "[a": 2, "[": 1,
                            "[a]": 3, "[a*]": 4, "[a](": 4, "[a])": 3, "]p": 0, "[a]]p": 3, "[[a]]p": 1, "[a,b]p": 2,
                            "[a&b]p": 2}.items():
            self.assert_place(text, place)

    def test_beginnings_and_wrong_characters(self):
        for text, place in {"": 0, " ": 1, "   ": 3, "~": 1, "(": 1, "p &": 3, "p & ": 4, "p |": 3, "(p": 2, "(p & q": 6,
                            "((p)": 4, "p)": 1, ")": 0, "()": 1, "p & )": 4, "(p))": 3, "p & & q": 4, "& p": 0, "|": 0,
                            "p ~q": 2, "p [a]q": 2, "p (q)": 2, "(p) q": 4, "(p)q": 3, "(p)(q)": 3, "p~": 1, "p[": 1,
                            "p && q": 3, "p || q": 3, "p & | q": 4, "~&p": 1, "?": 0, "*p": 0, "p*": 1, "p?": 1,
                            "p -> q": 2, "p\tq": 1, "p\n": 1, "\u00e4": 0, "(p & q))": 7, "p & (q | r": 10}.items():
            self.assert_place(text, place)

    def test_the_first_wrong_character_counts(self):
        for text, place in {"p q [ba]": 2, "[ba] p q": 2, "p) & abcdefghi": 1, "abcdefghi)": 8, "(p q": 3, "p & ) [": 4,
                            "[a?*] (": 3}.items():
            self.assert_place(text, place)

    def test_long_texts(self):
        self.assertEqual(str(read_saying("(" * 600 + "p" + ")" * 600)), "p")
        for text in ("~" * 700 + "p", "[a]" * 500 + "p", "p & " * 500 + "p", "p | (" * 400 + "p | p" + ")" * 400):
            self.assertEqual(str(read_saying(text)), text)
        self.assert_place("(" * 900, 900)
        self.assert_place("(" * 300 + "p" + ")" * 301, 601)

    def test_objects_stand_for_themselves(self):
        saying = Fact("p")
        self.assertIs(to_saying(saying), saying)
        self.assertEqual(to_saying("p & q"), Fact("p") & Fact("q"))


class SpoiltTexts(Checks):
    def assert_read_rightly(self, text):
        place = first_wrong_place(text)
        if place is None:
            self.assertEqual(read_saying(str(read_saying(text))), read_saying(text))
        else:
            self.assert_error(BadSaying(place), read_saying, text)
        return place is not None

    def test_spoilt_in_one_place(self):
        source = source_of(11)
        signs = "pqtrue~&|()[]ab?*h i1A"
        wrong = 0
        for _ in range(1200):
            text = str(random_saying(source, source.randint(1, 8), ("p", "q", "truex", "abcdefgh"), "abh"))
            at = source.randrange(len(text))
            sign = source.choice(signs)
            spoilt = source.choice([
                text[:at] + sign + text[at:], text[:at] + text[at + 1:], text[:at] + sign + text[at + 1:],
                text[:at] + text[at] + text[at:], text[:at] + text[at:at + 2][::-1] + text[at + 2:], text[:at]])
            wrong += self.assert_read_rightly(spoilt)
        self.assertGreater(wrong, 400)

    def test_short_texts_of_all_signs(self):
        source = source_of(12)
        right = 0
        for _ in range(4000):
            text = "".join(source.choice("pp~&|()[]ab?* ") for _ in range(source.randint(0, 7)))
            right += not self.assert_read_rightly(text)
        self.assertGreater(right, 50)

    def test_what_the_oracle_of_these_tests_says(self):
        for text in ("p", "true", "(p|q)&[ab?]~r", "  p ", "[a]((p))"):
            self.assertTrue(is_saying_text(text), text)
        for text in ("", "p q", "[ba]p", "[]p", "abcdefghi", "p&", "(p", "[a b]p", "[a?*]p", "P", "~"):
            self.assertFalse(is_saying_text(text), text)
        self.assertEqual([first_wrong_place(text) for text in ("p & [ba]q", "(p", "p)", "", "p")], [6, 2, 1, 0, None])


if __name__ == "__main__":
    unittest.main()
