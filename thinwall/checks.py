"""What several modules ask of the values that they are passed."""

from thinwall.errors import BadGroup, UnknownCase, UnknownFact, UnknownPerson

LETTERS = "abcdefgh"


def is_name(text):
    """Whether the string is a name of a fact."""
    small = all(["a" <= character <= "z" for character in text])
    return small and 1 <= len(text) <= 8 and text not in ("true", "false")


def is_letter(text):
    """Whether the string is the letter of a person."""
    return text in list(LETTERS)


def is_group(text):
    """Whether the string has one or more letters of people, in ascending order."""
    return text != "" and text == "".join([letter for letter in LETTERS if letter in text])


def check_group(group):
    if not is_group(group):
        raise BadGroup(group)


def check_case(case, size):
    if case < 0 or case >= size:
        raise UnknownCase(case)


def check_people(letters, people):
    """Raises an error for the first of the letters that is none of the people."""
    for letter in letters:
        # A string in a string would also be found where it is empty or longer.
        if letter not in list(people):
            raise UnknownPerson(letter)


def check_facts(names, facts):
    """Raises an error for the first of the names that is none of the facts."""
    for name in names:
        if name not in facts:
            raise UnknownFact(name)


def check_saying(house, saying):
    """Raises the errors of a saying in a house."""
    check_people(saying.letters(), house.people)
    check_facts(saying.facts(), house.facts())
