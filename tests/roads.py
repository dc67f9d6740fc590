"""Streets by chance, and what the document says of them word by word."""

import itertools

from thinwall.houses import House
from thinwall.plays import Play
from thinwall.sayings import Fact, Knows, Not, Truth, Whether
from thinwall.streets import Street
from oracles import true_in
from support import random_plain, random_saying, random_split, source_of

NAMES = ["mill", "barn", "inn", "a", "zoo"]


def site_play(source, size):
    house = House(["p", "q"], ["".join(source.choice("01") for _ in "pq") for _ in range(size)],
                  **{letter: random_split(source, size).marks() for letter in "ab"})
    return Play(house, **{sign: deed_for_two(source) for sign in "st"})


def deed_for_two(source):
    """The text of a deed by chance for the people a and b."""
    kind = source.choice(["tell", "voice", "look"])
    what = random_plain(source, source.randint(1, 3), "pq")
    if kind == "tell":
        who, other = source.choice(["ab", "ba"])
        return f"tell {who}: {what} / {other}: true"
    if kind == "look":
        return f"look {source.choice('ab')}: {what}"
    return f"voice: {what} / {source.choice('ab')}: {source.choice(['true', 'p', '~q'])}"


def site_saying(source):
    """A saying about one site: about facts, or about what is known there."""
    kind = source.random()
    if kind < 0.5:
        return random_plain(source, source.randint(1, 3), "pq")
    if kind < 0.8:
        told = source.choice([Knows, Whether])(source.choice("ab"), Fact(source.choice("pq")))
        return Not(told) if source.random() < 0.5 else told
    return random_saying(source, source.randint(1, 4), "pq", "ab") if kind < 0.95 else Truth(source.random() < 0.5)


class Told:
    """A street and a plain list of what it was told."""

    def __init__(self):
        self.street = Street()
        self.plays, self.rows, self.notes, self.links = {}, {}, {}, {}
        self.linked = 0

    def add(self, name, play, row):
        self.street.add_site(name, play, row=row)
        self.plays[name], self.rows[name], self.notes[name] = play, row, []

    def tell(self, name, sign):
        self.street.tell(name, sign)
        self.rows[name] += sign

    def note(self, name, letter, words):
        self.street.note(name, letter, words)
        self.notes[name].append((letter, list(words)))

    def link(self, first, saying, second, other):
        number = self.street.link(first, saying, second, other)
        assert number == self.linked
        self.links[number] = (first, saying, second, other)
        self.linked += 1

    def names(self):
        return sorted(self.plays)

    def table(self, name):
        return self.plays[name].after(self.rows[name])

    def open(self, name):
        """The open cases, read off point 60."""
        play = self.plays[name]
        return [case for case in range(play.house.size) if all(
            all(word in ("?", heard) for word, heard in zip(words, play.words(self.rows[name], letter, case)))
            for letter, words in self.notes[name])]

    def truths(self):
        """For each link whether its sayings are true in the cases of its sites."""
        found = {}
        for number, (first, saying, second, other) in self.links.items():
            tables = self.table(first), self.table(second)
            found[number] = (first, [bool(true_in(tables[0], case, saying)) for case in range(tables[0].house.size)],
                             second, [bool(true_in(tables[1], case, other)) for case in range(tables[1].house.size)])
        return found

    def joint_choices(self):
        """All joint choices, in the order of lists, read off point 61."""
        names, truths = self.names(), self.truths()
        choices = itertools.product(*[self.open(name) for name in names])
        return [list(choice) for choice in choices if not any(
            yes[choice[names.index(first)]] and not no[choice[names.index(second)]]
            for first, yes, second, no in truths.values())]

    def left(self):
        return {name: self.open(name) for name in self.names()}


def random_told(source, most_sites=4, most_size=4, links=6, notes=True):
    """A street with some sites, notes, and links, some of which were removed again."""
    told = Told()
    names = source.sample(NAMES, source.randint(0, most_sites))
    for name in names:
        play = site_play(source, source.randint(1, most_size))
        row = "".join(source.choice("st") for _ in range(source.randint(0, 2)))
        told.add(name, play, row)
        for _ in range(source.randint(0, 2)):
            told.tell(name, source.choice("st"))
    if names:
        for _ in range(source.randint(0, links)):
            random_link(source, told)
        if notes:
            for name in names:
                if source.random() < 0.3:
                    random_note(source, told, name)
        for number in list(told.links):
            if source.random() < 0.15:
                told.street.unlink(number)
                del told.links[number]
    return told


def random_link(source, told):
    names = told.names()
    first, second = source.choice(names), source.choice(names)
    told.link(first, site_saying(source), second, site_saying(source))


def random_note(source, told, name):
    play, row = told.plays[name], told.rows[name]
    letter, case = source.choice(play.house.people), source.randrange(play.house.size)
    words = play.words(row, letter, case)[:source.randint(0, len(row))]
    told.note(name, letter, [word if source.random() < 0.8 else "?" for word in words])


def some_streets(seed, many, **keywords):
    source = source_of(seed)
    for _ in range(many):
        yield source, random_told(source, **keywords)


def bars(truths, left, number, name, case):
    """Whether the link bars the case of the site, read off point 62."""
    first, yes, second, true = truths[number]
    if first == second:
        return name == first and yes[case] and not true[case]
    if name == first:
        return yes[case] and not any(true[other] for other in left[second])
    return name == second and not true[case] and all(yes[other] for other in left[first])


def all_barred(truths, left):
    return [(name, case, number) for name in sorted(left) for case in left[name] for number in sorted(truths)
            if bars(truths, left, number, name, case)]


def struck(truths, left, choose=min):
    """The strikes one after the other, each time the chosen one of those that are possible, and what is left."""
    left, made = {name: list(cases) for name, cases in left.items()}, []
    while all_barred(truths, left):
        name, case, number = choose(all_barred(truths, left))
        made.append((name, case, number))
        left[name].remove(case)
    return made, left


def holds_in_turn(truths, left, paper):
    """What is left behind the strikes, or None if one of them is not right."""
    left = {name: list(cases) for name, cases in left.items()}
    for name, case, number in paper:
        if name not in left or number not in truths or case not in left[name] or not bars(truths, left, number, name, case):
            return None
        left[name].remove(case)
    return left


def is_tree(truths, left, tree):
    """Whether the tree is one as described in point 63."""
    made, name, branches = tree
    left = holds_in_turn(truths, left, made)
    if left is None or name not in left or sorted(case for case, _ in branches) != left[name]:
        return False
    return all(is_tree(truths, {**left, name: [case]}, below) for case, below in branches)


def tree_by_words(truths, left):
    """The tree of refute, read off point 63; there is no joint choice."""
    made, left = struck(truths, left)
    empty = [name for name in sorted(left) if not left[name]]
    name = empty[0] if empty else [name for name in sorted(left) if len(left[name]) > 1][0]
    return (made, name, [(case, tree_by_words(truths, {**left, name: [case]})) for case in left[name]])
