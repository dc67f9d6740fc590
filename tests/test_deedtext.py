import unittest

from thinwall.acts import Turn
from thinwall.deeds import Deed, Tell, Voice
from thinwall.deedtext import read_deed
from thinwall.errors import BadText
from support import Checks, source_of
from telling import KINDS, made, random_told, text_of

GOOD = ["none", "none / a: p", "none / a: true / h: p & q", "voice: p", "voice: [ab?](p | ~q) / c: true", "hint a: p",
        "hint a: [b*]p / b: ~p", "tell a: p", "tell a: p / lies: q", "tell a: p / b: q", "tell a: p / lies: q / b: true / c: p",
        "letter a b: p", "letter b a: p / lies: q", "letter b a: p / lost: q", "letter a c: p / lies: q / lost: r / b: true",
        "letter a b: p / c: true / d: p", "look a: p", "look a: p | q / dim: q", "call: p", "call: [a]p / a: true / b: q",
        "turn p ?? none :: none", "turn p & q ?? look a: q / dim: p :: tell a: [b?]p / lies: q / c: p",
        "turn ~p ?? voice: p / a: true :: letter a b: q / lost: p", "voice: truely", "voice: none", "voice: turn",
        "voice: false", "tell a: false", "hint h: true / a: false & false"]

# Texts of deeds in another order, with other words, or with parts that a deed of their kind does not have.
WRONG = ["", " ", "none ", " none", "None", "none:", "none: p", "none: ", "none /", "none / ", "none / a", "none / a: ",
         "none / a:p", "none / p", "none a: p", "none / i: p", "none / A: p", "none / ab: p", "none / : p", "none // a: p",
         "none / a: false", "none / a: (p)", "none / b: p / a: p", "none / a: p / a: p", "none / a: p / a: q",
         "none / a: q / a: p", "none / lies: p", "none / who: p", "none / what: p", "none / self: p", "none / a: [b]p",
         "voice", "voice:", "voice: ", "voice: p ", "voice:  p", "voice : p", "voice a: p", "voice:p", "voice: p /a: q",
         "voice: p/ a: q", "voice: p / a: q ", "voice: p&q", "voice: (p)", "voice: p / a: false", "voice: p / what: q",
         "voice: p / lies: q", "voice: p\n", "voice: p: q", "voice: p / a: p: q", "voice: p / self: q",
         "hint: p", "hint a", "hint a:", "hint a : p", "hint a b: p", "hint  a: p", "hint i: p", "hint ab: p", "hint A: p",
         "hint a: p / a: true", "hint a: p / a: q", "hint a: p / lies: q", "hint a: p / who: b", "hint : p",
         "tell: p", "tell a: p / a: true", "tell a: p / lies: false", "tell a: p / lies: (q)", "tell a: p / lies: [b]q",
         "tell a: p / b: q / lies: q", "tell a: p / lost: q", "tell a: p / dim: q", "tell a: p / lies: q / lies: q",
         "tell a: p / c: q / b: q", "tell a: p / b: false", "tell a: p / what: q", "tell a: p / who: b", "tell a b: p",
         "letter a: p", "letter a a: p", "letter a i: p", "letter a b: p / b: true", "letter a b: p / a: true",
         "letter a b c: p", "letter ab: p", "letter a bc: p", "letter a b: p / lost: false", "letter a b: p / dim: q",
         "letter a b: p / lost: q / lies: q", "letter a b: p / c: q / lost: q", "letter a b: p / to: c", "letter a  b: p",
         "letter b b: p / lost: q", "look: p", "look a: [b]p", "look a: p / dim: false", "look a: p / dim: [b]p",
         "look a: p / b: q", "look a: p / lies: q", "look a: p / a: true", "look a b: p", "look a: p / dim: q / dim: q",
         "look a: p / who: q", "call a: p", "call", "call: ", "call: p / b: q / a: q", "call: p / dim: q",
         "turn", "turn ", "turn p", "turn p ?? none", "turn p ?? none :: ", "turn p ?? :: none", "turn ?? none :: none",
         "turn p ?? none : none", "turn p ? none :: none", "turn p ?? none :: none :: none", "turn p ?? q ?? none :: none",
         "turn p ??none :: none", "turn p ?? none ::none", "turn (p) ?? none :: none", "turn [a]p ?? none :: none",
         "turn p ?? none :: none / a: p / a: p", "turn  p ?? none :: none", "turn p ?? none :: none ", "turn: p ?? none :: none",
         "turn p ?? turn q ?? none :: none :: none", "turn p ?? none :: turn q ?? none :: none",
         "turn p ?? none / b: p / a: p :: none", "turn p ?? look a: (p) :: none", "turn a: p", "write a: p", "?", "-", "tell"]


class ReadingDeeds(Checks):
    def test_each_kind_with_and_without_its_parts(self):
        for text in GOOD:
            deed = read_deed(text)
            self.assertIsInstance(deed, Deed)
            self.assertEqual(str(deed), text)
            self.assertEqual(deed.KIND, text.split(" ")[0].strip(":"))

    def test_deeds_by_chance_read_back(self):
        source = source_of(65)
        for turn in range(400):
            told = random_told(source, kinds=(KINDS[turn % len(KINDS)],))
            deed = read_deed(text_of(told))
            self.assertEqual(deed, made(told))
            self.assertIs(type(deed), type(made(told)))
            self.assertEqual((deed.letters(), deed.facts()), (made(told).letters(), made(told).facts()))
            for letter in "abcdefgh":
                self.assertEqual(str(deed.ear(letter)), str(made(told).ear(letter)))

    def test_the_parts_of_a_deed_that_was_read(self):
        deed = read_deed("letter a b: [c]p / lies: q / lost: r / d: true")
        self.assertEqual([deed.who, deed.to, str(deed.what), str(deed.lies), str(deed.lost), str(deed.ear("d"))],
                         ["a", "b", "[c]p", "q", "r", "true"])
        turn = read_deed("turn p ?? none :: tell a: p")
        self.assertEqual((turn.first, turn.second, type(turn)), (Deed(), Tell("a", "p"), Turn))

    def test_texts_that_are_refused(self):
        for text in WRONG:
            self.assert_error(BadText(text), read_deed, text)

    def test_spoilt_texts(self):
        refused = 0
        for text in GOOD:
            spoilt = [text[:at] + text[at + 1:] for at in range(len(text))]
            spoilt += [text[:at] + text[at] + text[at:] for at in range(len(text))]
            spoilt += [text[:at] + text[at + 1] + text[at] + text[at + 2:] for at in range(len(text) - 1)]
            for sign in "ap /:?~( ":
                spoilt += [text[:at] + sign + text[at:] for at in range(len(text) + 1)]
                spoilt += [text[:at] + sign + text[at + 1:] for at in range(len(text))]
            for one in spoilt:
                try:
                    self.assertEqual(str(read_deed(one)), one)
                except BadText as error:
                    self.assertEqual(error.text, one)
                    refused += 1
        self.assertGreater(refused, 8000)

    def test_parts_in_another_order_or_twice(self):
        for text in GOOD:
            if text.startswith("turn"):
                continue
            head, *parts = text.split(" / ")
            for at in range(len(parts)):
                twice = " / ".join([head] + parts[:at] + [parts[at]] + parts[at:])
                self.assert_error(BadText(twice), read_deed, twice)
                last = " / ".join([head] + parts[:at] + parts[at + 1:] + [parts[at]])
                if at < len(parts) - 1:
                    self.assert_error(BadText(last), read_deed, last)

    def test_ears_without_effect_written_out(self):
        for text in ("tell b: p", "letter a b: p", "hint b: p", "voice: p", "call: p", "none"):
            one = f"{text} / b: false"
            self.assert_error(BadText(one), read_deed, one)
            if text not in ("voice: p", "call: p", "none"):
                other = f"{text} / b: true"
                self.assert_error(BadText(other), read_deed, other)

    def test_a_turn_within_a_turn(self):
        turn = "turn q ?? none :: none"
        for text in (f"turn p ?? {turn} :: none", f"turn p ?? none :: {turn}", f"turn p ?? {turn} :: {turn}"):
            self.assert_error(BadText(text), read_deed, text)

    def test_the_error_has_no_other_error_as_its_cause(self):
        with self.assertRaises(BadText) as caught:
            read_deed("voice: p)")
        self.assertIsNone(caught.exception.__cause__)
        self.assertEqual(read_deed(str(Voice("p"))), Voice("p"))


if __name__ == "__main__":
    unittest.main()
