"""Streets: several houses, where what is told in one of them bears on the others."""

from thinwall.checks import check_people, check_told, is_name
from thinwall.errors import BadCount, BadName, DuplicateSite, TooMany, UnknownLink, UnknownSite
from thinwall.reading import to_saying

MOST_SITES = 5
ANY_WORD = "?"


class Site:
    """A play, the row that was done, the table behind it, and the cases that fit all notes."""

    def __init__(self, play, done):
        self.play = play
        self.done = done
        self.now = play.after(done)
        self.fitting = list(range(play.house.size))


class Street:
    """Sites under names, and links between them under numbers."""

    def __init__(self):
        self._sites = {}
        self._links = {}
        self._linked = 0

    def add_site(self, name, play, *, row=""):
        """Adds a play in which the row was done."""
        if not is_name(name):
            raise BadName(name)
        if name in self._sites:
            raise DuplicateSite(name)
        if len(self._sites) >= MOST_SITES:
            raise TooMany(MOST_SITES)
        # The play raises the error of a wrong row.
        self._sites[name] = Site(play, row)

    def tell(self, name, sign):
        """Adds a deed to the row of the site."""
        site = self._site(name)
        # This raises the error of a wrong sign.
        deed = site.play.deed(sign)
        site.now = deed(site.now)
        site.done = site.done + sign

    def note(self, name, letter, words):
        """Keeps what the person heard of the deeds of the row, from the first one on."""
        site = self._site(name)
        check_people([letter], site.play.house.people)
        if len(words) > len(site.done):
            raise BadCount(len(words))
        # Later deeds change nothing in this, so the words themselves need not be kept.
        site.fitting = _cases_with_words(site, letter, words)

    def forget(self, name):
        """Drops all notes of the site."""
        site = self._site(name)
        site.fitting = list(range(site.play.house.size))

    def link(self, first, saying, second, other):
        """Says that the one saying at the first site brings the other one at the second; returns its number."""
        one = to_saying(saying)
        brought = to_saying(other)
        one_house = self._site(first).play.house
        other_house = self._site(second).play.house
        check_told(one_house, one)
        check_told(other_house, brought)
        number = self._linked
        self._links[number] = (first, one, second, brought)
        self._linked = number + 1
        return number

    def unlink(self, number):
        """Removes the link."""
        if number not in self._links:
            raise UnknownLink(number)
        del self._links[number]

    def names(self):
        """The names of the sites, ascending."""
        return sorted(self._sites)

    def links(self):
        """The numbers of the links, ascending."""
        return sorted(self._links)

    def told(self, name):
        """The row of the site."""
        return self._site(name).done

    def table_at(self, name):
        """The table of the site."""
        return self._site(name).now

    def open_cases(self, name):
        """The cases that fit all notes of the site."""
        return list(self._site(name).fitting)

    def __len__(self):
        return len(self._sites)

    def __contains__(self, name):
        return name in self._sites

    def _site(self, name):
        if name not in self._sites:
            raise UnknownSite(name)
        return self._sites[name]


def links_between(street):
    """The links in the order of their numbers: number, first site, its saying, second site, its saying."""
    return [(number, *street._links[number]) for number in street.links()]


def house_at(street, name):
    """The house of the site."""
    return street.table_at(name).house


def _cases_with_words(site, letter, words):
    """The cases of the site that fit, and in which the person heard these words of the first deeds."""
    cases = site.fitting
    table = site.play.start
    for sign, noted in zip(site.done, words):
        deed = site.play.deed(sign)
        heard = deed.heard(table, letter)
        cases = [case for case in cases if noted in (ANY_WORD, heard[case])]
        table = deed(table)
    return cases
