"""What several modules ask of the values that they are passed."""

from thinwall.errors import (BadGroup, BadLetter, NotPlain, UnknownCase, UnknownDeed, UnknownFact,
                             UnknownPerson, UnlikeHouses)

LETTERS = "abcdefgh"


def is_name(text):
    """Whether the string is a name of a fact."""
    small = all(["a" <= character <= "z" for character in text])
    return small and 1 <= len(text) <= 8 and text not in ("true", "false")


def is_letter(text):
    """Whether the string is the letter of a person."""
    return text in list(LETTERS)


def is_sign(text):
    """Whether the string is the sign of a deed."""
    return len(text) == 1 and "a" <= text <= "z"


def is_group(text):
    """Whether the string has one or more letters of people, in ascending order."""
    return text != "" and text == "".join([letter for letter in LETTERS if letter in text])


def check_group(group):
    if not is_group(group):
        raise BadGroup(group)


def check_case(case, size):
    if case < 0 or case >= size:
        raise UnknownCase(case)


def chosen_cases(cases, size):
    """The cases in ascending order without duplicates; None stands for all cases."""
    if cases is None:
        return list(range(size))
    for case in cases:
        check_case(case, size)
    return sorted(set(cases))


def check_letters(letters):
    """Raises an error for the first string that is not the letter of a person."""
    for letter in letters:
        if not is_letter(letter):
            raise BadLetter(letter)


def check_people(letters, people):
    """Raises an error for the first of the letters that is none of the people."""
    for letter in letters:
        # A string in a string would also be found where it is empty or longer.
        if letter not in list(people):
            raise UnknownPerson(letter)


def check_facts(names, facts):
    """Raises an error for the first of the names that is none of the facts."""
    for name in names:
        if name not in facts:
            raise UnknownFact(name)


def check_told(house, told):
    """Raises the errors of a saying or of a deed in a house."""
    check_people(told.letters(), house.people)
    check_facts(told.facts(), house.facts())


def check_row(row, signs):
    """Raises an error for the first character of the row that is none of the signs."""
    for place, sign in enumerate(row):
        if sign not in signs:
            raise UnknownDeed(sign, place)


def check_plain(sayings):
    """Raises an error for the first of the sayings that is not plain."""
    for saying in sayings:
        if not saying.plain:
            raise NotPlain(str(saying))


def check_like_houses(one, other):
    """Raises an error if the houses differ in their facts or in their people."""
    if one.facts() != other.facts():
        raise UnlikeHouses("facts")
    if one.people != other.people:
        raise UnlikeHouses("people")
