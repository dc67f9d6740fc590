"""Closing in on the cases of a street: joint choices, strikes, and trees that refute."""

from thinwall.errors import NoChoice
from thinwall.reading import to_saying
from thinwall.streets import house_at, links_between
from thinwall.truths import cases_of

# A link is seen here as (number, first, yes, second, no): the first site with the cases
# in which its saying is true, and the second site with those in which its saying is
# false. What is left is a dict of the cases for each site, in ascending order.


def joint(street):
    """The first joint choice, or None."""
    return _first_choice(_open_cases(street), _clashes(_links_now(street)))


def sure(street, name, saying):
    """The first joint choice in which the saying is false at the site, or None."""
    told = to_saying(saying)
    # These two calls raise the errors of the name and of the saying.
    true_cases = cases_of(street.table_at(name), told)
    left = _open_cases(street)
    false_cases = [case for case in left[name] if case not in true_cases]
    return _first_choice({**left, name: false_cases}, _clashes(_links_now(street)))


def settled(street):
    """The facts that have the same value at a site in all joint choices."""
    left = _open_cases(street)
    clashes = _clashes(_links_now(street))
    if _first_choice(left, clashes) is None:
        raise NoChoice()
    found = []
    for name in left:
        house = house_at(street, name)
        chosen = [case for case in left[name] if _first_choice({**left, name: [case]}, clashes) is not None]
        for fact in house.facts():
            values = [house.fact_holds(case, fact) for case in chosen]
            if len(set(values)) == 1:
                found.append((name, fact, values[0]))
    return found


def strikes(street):
    """The strikes that are made one after the other until nothing is barred."""
    made, _ = _struck(_open_cases(street), _links_now(street))
    return made


def rest(street):
    """The cases that are left for each site in the end."""
    _, left = _struck(_open_cases(street), _links_now(street))
    return list(left.items())


def strikes_hold(street, paper):
    """Whether each strike is right in its turn."""
    return _left_behind(paper, _open_cases(street), _links_now(street)) is not None


def refute(street):
    """The tree which shows that there is no joint choice, or None."""
    left = _open_cases(street)
    links = _links_now(street)
    if _first_choice(left, _clashes(links)) is not None:
        return None
    return _tree(left, links)


def tree_holds(street, tree):
    """Whether the tree shows that there is no joint choice."""
    links = _links_now(street)
    waiting = [(tree, _open_cases(street))]
    while waiting:
        (made, name, branches), before = waiting.pop()
        left = _left_behind(made, before, links)
        if left is None or name not in left:
            return False
        if sorted([case for case, _ in branches]) != left[name]:
            return False
        waiting.extend([(branch, {**left, name: [case]}) for case, branch in branches])
    return True


def _open_cases(street):
    return {name: street.open_cases(name) for name in street.names()}


def _links_now(street):
    """The links with the cases that matter in the tables as they are now."""
    links = []
    for number, first, saying, second, other in links_between(street):
        yes = cases_of(street.table_at(first), saying)
        true_cases = cases_of(street.table_at(second), other)
        no = [case for case in range(house_at(street, second).size) if case not in true_cases]
        links.append((number, first, yes, second, no))
    return links


def _clashes(links):
    """A dict of all (site, case, site, case) that break a link, in both directions."""
    found = {}
    for _, first, yes, second, no in links:
        for case in yes:
            for other in no:
                found[(first, case, second, other)] = True
                found[(second, other, first, case)] = True
    return found


def _first_choice(left, clashes):
    """The first choice of cases that are left, one for each site, that breaks no link, or None."""
    names = list(left)
    start = {name: [case for case in left[name] if (name, case, name, case) not in clashes] for name in names}
    waiting = [([], start)]
    while waiting:
        choice, able = waiting.pop()
        if len(choice) == len(names):
            return choice
        name = names[len(choice)]
        for case in reversed(able[name]):
            further = _able_beside(able, clashes, name, case)
            # Where another site has no case any more, no choice goes on from here.
            if all(further.values()):
                waiting.append((choice + [case], further))
    return None


def _able_beside(able, clashes, name, case):
    """The cases that can be chosen beside this case of the site; of the site itself it is this one."""
    return {other: [one for one in able[other] if (name, case, other, one) not in clashes]
            if other != name else [case] for other in able}


def _barred(link, name, left):
    """The cases of the site that are left and that the link bars."""
    _, first, yes, second, no = link
    if first == second:
        return [case for case in left[name] if name == first and case in yes and case in no]
    if name == first and all([other in no for other in left[second]]):
        return [case for case in left[name] if case in yes]
    if name == second and all([other in yes for other in left[first]]):
        return [case for case in left[name] if case in no]
    return []


def _next_strike(left, links):
    """The first strike that can be made, or None."""
    for name in left:
        barred = [(case, link[0]) for link in links for case in _barred(link, name, left)]
        if barred:
            case, number = min(barred)
            return (name, case, number)
    return None


def _struck(left, links):
    """The strikes that are made one after the other, and what is left behind them."""
    made = []
    now = left
    strike = _next_strike(now, links)
    while strike is not None:
        made.append(strike)
        now = _without(now, strike[0], strike[1])
        strike = _next_strike(now, links)
    return made, now


def _without(left, name, case):
    """What is left without this case of the site."""
    return {**left, name: [other for other in left[name] if other != case]}


def _left_behind(made, left, links):
    """What is left behind the strikes, or None if one of them is not right in its turn."""
    numbered = {link[0]: link for link in links}
    now = left
    for name, case, number in made:
        if name not in now or number not in numbered or case not in _barred(numbered[number], name, now):
            return None
        now = _without(now, name, case)
    return now


def _tree(left, links):
    """The tree from what is left on; there is no joint choice."""
    made, now = _struck(left, links)
    empty = [name for name in now if len(now[name]) == 0]
    several = [name for name in now if len(now[name]) > 1]
    # One of the two is not empty: cases that stand alone and are not barred would be a joint choice.
    name = (empty + several)[0]
    branches = [(case, _tree({**now, name: [case]}, links)) for case in now[name]]
    return (made, name, branches)
