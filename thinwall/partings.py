"""Partings: papers which show that two cases are not alike."""

from thinwall.alike import joint_rounds
from thinwall.checks import check_case, check_like_houses
from thinwall.errors import TooMany
from thinwall.sayings import And, Fact, Knows, Not, Or

MOST_PARTS = 60


def find_parting(first, a, second, b):
    """The parting with the least ranks and the first entries, or None if the cases are alike."""
    _check_cases(first, a, second, b)
    ranks = _ranks(first, second)
    if (a, b) not in ranks:
        return None
    entries = {}
    waiting = [(a, b)]
    while waiting:
        pair = waiting.pop()
        if pair not in entries:
            entries[pair] = _first_entry(first, second, ranks, pair)
            waiting.extend(_pairs_below(first, second, entries[pair]))
    return sorted(entries.values())


def parting_holds(first, a, second, b, paper):
    """Whether the entries show that the two cases are not alike."""
    _check_cases(first, a, second, b)
    ranks = {(entry[1], entry[2]): entry[0] for entry in paper}
    if (a, b) not in ranks or len(ranks) < len(paper):
        return False
    return all([_entry_holds(first, second, ranks, entry) for entry in paper])


def parting_saying(first, a, second, b, *, most=MOST_PARTS):
    """A saying that is true in a and false in b, or None if the cases are alike."""
    paper = find_parting(first, a, second, b)
    if paper is None:
        return None
    sayings = {}
    # What an entry is built from has smaller ranks, so it stands before it.
    for entry in paper:
        told = [sayings[pair] for pair in _pairs_below(first, second, entry)]
        # Each saying is a part of that of a and b, so one that is too long decides.
        sayings[(entry[1], entry[2])] = _saying_of_entry(entry, told, most)
    return sayings[(a, b)]


def _check_cases(first, a, second, b):
    check_like_houses(first.house, second.house)
    check_case(a, first.house.size)
    check_case(b, second.house.size)


def _ranks(first, second):
    """The rank of each pair of cases that are not alike: the first round that parts them."""
    size = first.house.size
    found = {}
    for rank, marks in enumerate(joint_rounds([first, second])):
        for a in range(size):
            for b in range(second.house.size):
                if marks[a] != marks[size + b] and (a, b) not in found:
                    found[(a, b)] = rank
    return found


def _first_entry(first, second, ranks, pair):
    """The first entry of its rank that is right for the pair."""
    for entry in _entries_of_pair(first, second, ranks[pair], pair):
        if _entry_holds(first, second, ranks, entry):
            return entry
    return None


def _entries_of_pair(first, second, rank, pair):
    """All entries of the rank for the pair, whether right or not, in their order."""
    a, b = pair
    if rank == 0:
        return [(0, a, b, name, side, -1) for name in first.house.facts() for side in (0, 1)]
    return [(rank, a, b, letter, side, chosen) for letter in first.house.people for side in (0, 1)
            for chosen in _choices(first, second, pair, letter, side)]


def _entry_holds(first, second, ranks, entry):
    """Whether the entry is right in a list with these ranks of pairs."""
    rank, a, b, word, side, chosen = entry
    if a < 0 or a >= first.house.size or b < 0 or b >= second.house.size or side not in (0, 1):
        return False
    if rank == 0:
        return word in first.house.facts() and chosen == -1 and _fact_parts(first, a, second, b, word, side)
    # A string in a string would also be found where it is empty or longer.
    if word not in list(first.house.people) or chosen not in _choices(first, second, (a, b), word, side):
        return False
    return all([pair in ranks and ranks[pair] < rank for pair in _pairs_below(first, second, entry)])


def _choices(first, second, pair, letter, side):
    """The cases from which an entry of this person and this side may choose one."""
    a, b = pair
    return first.view(letter).cell(a) if side == 0 else second.view(letter).cell(b)


def _fact_parts(first, a, second, b, name, side):
    """Whether the fact holds in the case of the side, and not in the other one."""
    truths = (first.house.fact_holds(a, name), second.house.fact_holds(b, name))
    return truths == (side == 0, side == 1)


def _pairs_below(first, second, entry):
    """The pairs that an entry speaks of."""
    rank, a, b, word, side, chosen = entry
    if rank == 0:
        return []
    if side == 0:
        return [(chosen, other) for other in second.view(word).cell(b)]
    return [(other, chosen) for other in first.view(word).cell(a)]


def _saying_of_entry(entry, told, most):
    """The saying of an entry over the sayings of the pairs that it speaks of."""
    rank, _, _, word, side, _ = entry
    if rank == 0:
        _check_length(1 + side, most)
        return Fact(word) if side == 0 else Not(Fact(word))
    different = [saying for at, saying in enumerate(told) if saying not in told[:at]]
    # One more than each saying: an And or Or stands between two of them, and a Knows before all.
    length = sum([len(saying) + 1 for saying in different])
    _check_length(length + 2 if side == 0 else length, most)
    joined = _joined(different, side)
    return Not(Knows(word, Not(joined))) if side == 0 else Knows(word, joined)


def _check_length(length, most):
    if length > most:
        raise TooMany(most)


def _joined(sayings, side):
    """The And of the sayings for side 0, and their Or for side 1."""
    result = sayings[0]
    for saying in sayings[1:]:
        result = And(result, saying) if side == 0 else Or(result, saying)
    return result
