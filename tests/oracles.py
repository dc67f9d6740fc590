"""What the tests compare the program with: houses by chance, and the document word by word."""

import re

from thinwall.houses import House
from thinwall.sayings import And, Fact, Knows, Not, Or, Truth, Whether
from thinwall.tables import Table
from support import random_split, source_of

# From the end, where p is false, one case after the other is told apart.
ROAD = Table(House(["p"], ["1"] * 11 + ["0"], a=[case // 2 for case in range(12)],
                   b=[(case + 1) // 2 for case in range(12)]))
PAIR = Table(House(["p"], ["1", "1", "0", "0"], a=[0, 0, 1, 1], b=[0, 0, 0, 0]))


def random_house(source, size, facts="pqr", letters="abc"):
    rows = ["".join(source.choice("01") for _ in facts) for _ in range(size)]
    return House(list(facts), rows, **{letter: random_split(source, size).marks() for letter in letters})


def random_table(source, size, facts="pqr", letters="abc"):
    house = random_house(source, size, facts, letters)
    return Table(house, **{letter: random_split(source, size) for letter in letters})


def true_in(table, case, saying):
    """Whether the saying is true in the case, read off point 22 word by word."""
    def in_all(cell):
        return all(true_in(table, other, saying.inner) for other in cell)

    def in_none(cell):
        return not any(true_in(table, other, saying.inner) for other in cell)

    if isinstance(saying, Truth):
        return saying.value
    if isinstance(saying, Fact):
        return table.house.rows()[case][table.house.facts().index(saying.name)] == "1"
    if isinstance(saying, Not):
        return not true_in(table, case, saying.inner)
    if isinstance(saying, And):
        return true_in(table, case, saying.first) and true_in(table, case, saying.second)
    if isinstance(saying, Or):
        return true_in(table, case, saying.first) or true_in(table, case, saying.second)
    cells = [table.view(letter).cell(case) for letter in saying.group]
    if isinstance(saying, Knows):
        return all(in_all(cell) for cell in cells)
    if isinstance(saying, Whether):
        return all(in_all(cell) or in_none(cell) for cell in cells)
    return in_all(reached(table, saying.group, case))


def reached(table, group, case):
    """The cases that chains of the people of the group lead to."""
    found = [case]
    for one in found:
        for letter in group:
            found += [other for other in table.view(letter).cell(one) if other not in found]
    return sorted(found)


def is_saying_text(text):
    """Whether the text is one of a saying, told by writing it shorter again and again."""
    names = re.findall("[a-z]+", re.sub(r"\[.*?\]", " ", text))
    brackets = re.findall(r"\[.*?\]", text)
    if any(len(name) > 8 for name in names):
        return False
    if any(not re.fullmatch(r"\[a?b?c?d?e?f?g?h?[?*]?\]", one) or not re.match(r"\[[a-h]", one) for one in brackets):
        return False
    short = re.sub("[a-z]+", "x", re.sub(r"\[.*?\]", "~", text)).replace(" ", "")
    before = None
    while before != short:
        before = short
        for long in ("~x", "(x)", "x&x", "x|x"):
            short = short.replace(long, "x")
    return short == "x"


def first_wrong_place(text):
    """The place that point 16 asks for, or None: each beginning is completed in all the ways that may help."""
    if is_saying_text(text):
        return None
    for length in range(1, len(text) + 1):
        start = text[:length]
        closing = ")" * start.count("(")
        if not any(is_saying_text(start + middle + closing[:many])
                   for middle in ("", "p", "]p", "a]p") for many in range(len(closing) + 1)):
            return length - 1
    return len(text)


def lifted_table(source, table, size):
    """A table of this size in which each case copies one of the other table, and each of them is copied."""
    copied = list(range(table.house.size)) + [source.randrange(table.house.size) for _ in range(size - table.house.size)]
    source.shuffle(copied)
    rows = table.house.rows()
    eyes = {letter: [table.view(letter).marks()[case] for case in copied] for letter in table.house.people}
    return Table(House(table.house.facts(), [rows[case] for case in copied], **eyes)), copied


def some_tables(seed, many=120):
    """Pairs of tables with the same facts and people: some by chance, some with copies of the same cases."""
    source = source_of(seed)
    for turn in range(many):
        facts, letters = source.choice(["", "p", "pq"]), source.choice(["a", "bd", "abc", "aceg"])
        first = random_table(source, source.randint(1, 6), facts, letters)
        second = random_table(source, source.randint(1, 6), facts, letters)
        if turn % 2:
            second, _ = lifted_table(source, first, source.randint(first.house.size, 12))
        if turn % 4 == 3:
            first, second = second, first
        yield source, first, second


def matched(first, second, pairs, a, b):
    """Whether each case in the cells of the one is paired with one in the cell of the other, both ways."""
    for letter in first.house.people:
        ours, theirs = first.view(letter).cell(a), second.view(letter).cell(b)
        if not all(any((one, other) in pairs for other in theirs) for one in ours):
            return False
        if not all(any((one, other) in pairs for one in ours) for other in theirs):
            return False
    return True


def alike_by_words(first, second):
    """The greatest relation with the properties of point 27: whatever breaks them is left out."""
    rows, others = first.house.rows(), second.house.rows()
    pairs = {(a, b) for a, row in enumerate(rows) for b, other in enumerate(others) if row == other}
    while True:
        kept = {(a, b) for a, b in pairs if matched(first, second, pairs, a, b)}
        if kept == pairs:
            return sorted(pairs)
        pairs = kept


def is_alike_paper(first, second, pairs):
    """Whether the pairs are a paper in the sense of point 29."""
    return all(a in range(first.house.size) and b in range(second.house.size)
               and first.house.rows()[a] == second.house.rows()[b] and matched(first, second, pairs, a, b)
               for a, b in pairs)


def is_least_form(table, house, onto):
    """Whether the house and the map are a least form of the table, read off point 30 word by word."""
    if house.facts() != table.house.facts() or house.people != table.house.people:
        return False
    if len(onto) != table.house.size or set(onto) != set(range(house.size)):
        return False
    form = Table(house)
    different = all(a == b for a, b in alike_by_words(form, form))
    return different and is_alike_paper(table, form, list(enumerate(onto)))


def ranks_by_words(first, second):
    """The smallest rank of each pair for which there is a right entry, read off point 32."""
    pairs = [(a, b) for a in range(first.house.size) for b in range(second.house.size)]
    ranks = {(a, b): 0 for a, b in pairs if first.house.rows()[a] != second.house.rows()[b]}
    for rank in range(1, len(pairs) + 1):
        before = dict(ranks)
        for a, b in pairs:
            if (a, b) not in ranks and right_choices(first, second, before, a, b):
                ranks[a, b] = rank
        if ranks == before:
            break
    return ranks


def right_choices(first, second, ranks, a, b):
    """The (word, side, chosen) of entries of the pair that are right where these pairs have entries, in order."""
    found = []
    for letter in first.house.people:
        ours, theirs = first.view(letter).cell(a), second.view(letter).cell(b)
        found += [(letter, 0, one) for one in ours if all((one, other) in ranks for other in theirs)]
        found += [(letter, 1, other) for other in theirs if all((one, other) in ranks for one in ours)]
    return found


def parting_by_words(first, a, second, b):
    """What find_parting returns, read off point 33."""
    ranks = ranks_by_words(first, second)
    if (a, b) not in ranks:
        return None
    found, waiting = {}, [(a, b)]
    for one, other in waiting:
        rank = ranks[one, other]
        if rank == 0:
            facts = first.house.facts()
            held = [first.house.fact_holds(one, name) for name in facts]
            place = [value != second.house.fact_holds(other, name) for value, name in zip(held, facts)].index(True)
            found[one, other] = (0, one, other, facts[place], 0 if held[place] else 1, -1)
            continue
        lower = {pair for pair, low in ranks.items() if low < rank}
        letter, side, chosen = right_choices(first, second, lower, one, other)[0]
        found[one, other] = (rank, one, other, letter, side, chosen)
        mates = second.view(letter).cell(other) if side == 0 else first.view(letter).cell(one)
        below = [(chosen, mate) if side == 0 else (mate, chosen) for mate in mates]
        waiting += [pair for pair in below if pair not in found and pair not in waiting]
    return sorted(found.values())


def is_parting(first, a, second, b, paper):
    """Whether the list is a parting of the pair, read off points 32 and 33."""
    pairs = [entry[1:3] for entry in paper]
    if (a, b) not in pairs or len(set(pairs)) < len(pairs):
        return False
    return all(is_right_entry(first, second, entry, paper) for entry in paper)


def is_right_entry(first, second, entry, paper):
    rank, a, b, word, side, chosen = entry
    if a not in range(first.house.size) or b not in range(second.house.size) or side not in (0, 1):
        return False
    if rank == 0:
        if word not in first.house.facts() or chosen != -1:
            return False
        return (first.house.fact_holds(a, word), second.house.fact_holds(b, word)) == ((True, False), (False, True))[side]
    if rank < 0 or word not in list(first.house.people):
        return False
    lower = {other[1:3] for other in paper if other[0] < rank}
    return (word, side, chosen) in right_choices(first, second, lower, a, b)
