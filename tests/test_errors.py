import unittest

from thinwall import errors

ARGUMENTS = {
    "BadSize": "size", "UnknownCase": "case", "SizeMismatch": "first second", "BadText": "text", "BadName": "name",
    "BadGroup": "group", "BadCount": "count", "BadSaying": "place", "BadHouse": "part", "UnknownPerson": "letter",
    "UnknownFact": "name", "NotPlain": "text", "TooMany": "most", "UnlikeHouses": "part", "BadKey": "",
    "BadLetter": "letter", "BadTurn": "", "BadSign": "sign", "UnknownDeed": "sign place", "BadMachine": "part",
    "UnlikeMachines": "", "BadNotes": "letter index", "DuplicateSite": "name", "UnknownSite": "name",
    "UnknownLink": "number", "NoChoice": "", "TooLong": "most", "Spilled": "case", "NothingToUndo": "",
    "NothingToRedo": "", "Refused": "index", "BadLine": "line",
}


class TheErrors(unittest.TestCase):
    def test_the_base_class_is_a_value_error(self):
        self.assertEqual(errors.ThinwallError.__bases__, (ValueError,))

    def test_all_classes_are_there_and_direct_subclasses(self):
        found = {name for name, value in vars(errors).items() if isinstance(value, type)}
        self.assertEqual(found, set(ARGUMENTS) | {"ThinwallError"})
        for name in ARGUMENTS:
            kind = getattr(errors, name)
            self.assertEqual(kind.__bases__, (errors.ThinwallError,), name)
            self.assertEqual(kind.__module__, "thinwall.errors", name)

    def test_each_argument_becomes_the_attribute_of_its_name(self):
        for name, words in ARGUMENTS.items():
            values = {word: place * 7 for place, word in enumerate(words.split())}
            kind = getattr(errors, name)
            self.assertEqual(vars(kind(*values.values())), values, name)
            self.assertEqual(vars(kind(**values)), values, name)
            self.assertNotEqual(str(kind(*values.values())), "", name)


if __name__ == "__main__":
    unittest.main()
