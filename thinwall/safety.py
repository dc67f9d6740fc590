"""Safety: what never becomes known, however the deeds go on."""

from thinwall.checks import check_case, check_facts, check_people, chosen_cases
from thinwall.errors import BadKey
from thinwall.lots import choices_of, last_tables, rows_over, tables_of, ways_of
from thinwall.reading import to_saying
from thinwall.tables import Table
from thinwall.truths import level


def safe_cases(lot, name, letter):
    """The cases in which the fact is safe from the person."""
    _check_secret(lot.play.house, name, letter)
    return _safe_cases(lot.play.house, tables_of(lot), name, letter)


def secrets(lot):
    """The pairs of a fact and a person from whom it is safe in all cases."""
    house = lot.play.house
    tables = tables_of(lot)
    return [(name, letter) for name in house.facts() for letter in house.people
            if _safe_cases(house, tables, name, letter) == list(range(house.size))]


def leak(lot, name, letter):
    """The first name behind which the person knows the fact, and the smallest case for it, or None."""
    house = lot.play.house
    _check_secret(house, name, letter)
    for row, table in lot.walk():
        known = [case for case in range(house.size) if _twin(table, name, letter, case) is None]
        if known:
            return (row, known[0])
    return None


def twins(lot, name, letter, case):
    """For the name of each last table a case with the opposite fact that the person takes for the case, or None."""
    _check_secret_in(lot.play.house, name, letter, case)
    # What is known stays known, so the last tables are enough.
    found = [_twin(table, name, letter, case) for table in last_tables(lot)]
    if None in found:
        return None
    return list(zip(lot.last_names(), found))


def safe_paper(lot, name, letter, case):
    """For the key of each table a case with the opposite fact that the person takes for the case, or None."""
    _check_secret_in(lot.play.house, name, letter, case)
    tables = tables_of(lot)
    found = [_twin(table, name, letter, case) for table in tables]
    if None in found:
        return None
    return [(table.key, twin) for table, twin in zip(tables, found)]


def safe_holds(play, name, letter, case, paper):
    """Whether the pairs of a key and a twin show that the fact is safe."""
    _check_secret_in(play.house, name, letter, case)
    listed = {key: True for key, _ in paper}
    if play.start.key not in listed:
        return False
    if not all([_twin_holds(play.house, name, letter, case, entry) for entry in paper]):
        return False
    return all([_closed_from(play, key, listed) for key in listed])


def fewest_struck(lot, name, letter, *, cases=None):
    """The fewest signs without whose deeds the fact is safe in the cases, or None."""
    house = lot.play.house
    _check_secret(house, name, letter)
    chosen = chosen_cases(cases, house.size)
    hidden = [all([_twin(table, name, letter, case) is not None for case in chosen]) for table in tables_of(lot)]
    ways = ways_of(lot)
    for struck in choices_of(lot.play.signs):
        others = "".join([sign for sign in lot.play.signs if sign not in struck])
        if all([hidden[number] for _, number in rows_over(ways, others)]):
            return struck
    return None


def best_level(lot, case, group, saying):
    """The greatest level of the saying in any table, and the first name at which it is reached."""
    told = to_saying(saying)
    best = (-1, "")
    for row, table in lot.walk():
        found = level(table, case, group, told)
        if found is None:
            return (None, row)
        if found > best[0]:
            best = (found, row)
    return best


def _check_secret(house, name, letter):
    check_people([letter], house.people)
    check_facts([name], house.facts())


def _check_secret_in(house, name, letter, case):
    _check_secret(house, name, letter)
    check_case(case, house.size)


def _safe_cases(house, tables, name, letter):
    return [case for case in range(house.size)
            if all([_twin(table, name, letter, case) is not None for table in tables])]


def _twin(table, name, letter, case):
    """The smallest case with the opposite fact that the person takes for the case, or None if there is none."""
    fact = table.house.fact_holds(case, name)
    for other in table.view(letter).cell(case):
        if table.house.fact_holds(other, name) != fact:
            return other
    return None


def _twin_holds(house, name, letter, case, entry):
    """Whether the key is that of a table in which the person takes the twin, with the opposite fact, for the case."""
    key, twin = entry
    try:
        table = Table.keyed(house, key)
    except BadKey:
        return False
    if twin not in table.view(letter).cell(case):
        return False
    return house.fact_holds(twin, name) != house.fact_holds(case, name)


def _closed_from(play, key, listed):
    """Whether each deed leads from the table of the key to one that is listed."""
    table = Table.keyed(play.house, key)
    return all([play.after(sign, table=table).key in listed for sign in play.signs])
