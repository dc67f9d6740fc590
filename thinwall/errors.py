"""The errors of the program."""


class ThinwallError(ValueError):
    """The base class of all errors of the program."""


class BadSize(ThinwallError):
    def __init__(self, size):
        super().__init__(f"the size {size} is not from 1 to 12")
        self.size = size


class UnknownCase(ThinwallError):
    def __init__(self, case):
        super().__init__(f"there is no case {case}")
        self.case = case


class SizeMismatch(ThinwallError):
    def __init__(self, first, second):
        super().__init__(f"the sizes {first} and {second} differ")
        self.first = first
        self.second = second


class BadText(ThinwallError):
    def __init__(self, text):
        super().__init__(f"nothing has the text {text!r}")
        self.text = text


class BadName(ThinwallError):
    def __init__(self, name):
        super().__init__(f"{name!r} is not the name of a fact")
        self.name = name


class BadGroup(ThinwallError):
    def __init__(self, group):
        super().__init__(f"{group!r} is not a group")
        self.group = group


class BadCount(ThinwallError):
    def __init__(self, count):
        super().__init__(f"the number {count} is out of bounds")
        self.count = count


class BadSaying(ThinwallError):
    def __init__(self, place):
        super().__init__(f"the text is not a saying from index {place} on")
        self.place = place


class BadHouse(ThinwallError):
    def __init__(self, part):
        super().__init__(f"there is no house with these {part}")
        self.part = part


class UnknownPerson(ThinwallError):
    def __init__(self, letter):
        super().__init__(f"nobody has the letter {letter!r}")
        self.letter = letter


class UnknownFact(ThinwallError):
    def __init__(self, name):
        super().__init__(f"the house has no fact {name!r}")
        self.name = name


class NotPlain(ThinwallError):
    def __init__(self, text):
        super().__init__(f"the saying {text} is not plain")
        self.text = text


class TooMany(ThinwallError):
    def __init__(self, most):
        super().__init__(f"there are more than {most}")
        self.most = most


class UnlikeHouses(ThinwallError):
    def __init__(self, part):
        super().__init__(f"the two differ in: {part}")
        self.part = part


class BadKey(ThinwallError):
    def __init__(self):
        super().__init__("no table of the house has the key")


class BadLetter(ThinwallError):
    def __init__(self, letter):
        super().__init__(f"the letter {letter!r} cannot stand here")
        self.letter = letter


class BadTurn(ThinwallError):
    def __init__(self):
        super().__init__("a turn cannot hold another turn")


class BadSign(ThinwallError):
    def __init__(self, sign):
        super().__init__(f"{sign!r} is not a sign")
        self.sign = sign


class UnknownDeed(ThinwallError):
    def __init__(self, sign, place):
        super().__init__(f"there is no deed {sign!r} for the place {place}")
        self.sign = sign
        self.place = place


class BadMachine(ThinwallError):
    def __init__(self, part):
        super().__init__(f"there is no machine with these {part}")
        self.part = part


class UnlikeMachines(ThinwallError):
    def __init__(self):
        super().__init__("the signs differ")


class BadNotes(ThinwallError):
    def __init__(self, letter, index):
        super().__init__(f"the entry {index} of the notes of {letter} is wrong")
        self.letter = letter
        self.index = index


class DuplicateSite(ThinwallError):
    def __init__(self, name):
        super().__init__(f"there is a site {name!r} already")
        self.name = name


class UnknownSite(ThinwallError):
    def __init__(self, name):
        super().__init__(f"there is no site {name!r}")
        self.name = name


class UnknownLink(ThinwallError):
    def __init__(self, number):
        super().__init__(f"there is no link {number}")
        self.number = number


class NoChoice(ThinwallError):
    def __init__(self):
        super().__init__("there is no joint choice")


class TooLong(ThinwallError):
    def __init__(self, most):
        super().__init__(f"the row has more than {most} deeds")
        self.most = most


class Spilled(ThinwallError):
    def __init__(self, case):
        super().__init__(f"what must never be true is true in the case {case}")
        self.case = case


class NothingToUndo(ThinwallError):
    def __init__(self):
        super().__init__("there is no change to take back")


class NothingToRedo(ThinwallError):
    def __init__(self):
        super().__init__("there is no change to make again")


class Refused(ThinwallError):
    def __init__(self, index):
        super().__init__(f"the errand {index} is refused")
        self.index = index


class BadLine(ThinwallError):
    def __init__(self, line):
        super().__init__(f"the line {line} is wrong")
        self.line = line
