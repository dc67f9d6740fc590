"""Deeds by chance, told as dicts, and what the document says of them word by word."""

from thinwall.acts import Call, Look, Turn
from thinwall.deeds import Deed, Hint, Letter, Tell, Voice
from thinwall.plays import Play
from thinwall.sayings import Truth
from oracles import random_house, true_in
from support import random_plain, random_saying

KINDS = ("none", "voice", "hint", "tell", "letter", "look", "call", "turn")
NEVER = Truth(False)


def random_told(source, facts="pqr", letters="abc", kinds=KINDS):
    """What a deed is made of: its kind, its people, and its sayings."""
    def plain():
        return random_plain(source, source.randint(1, 4), facts)

    def rarely(saying):
        return saying if source.random() < 0.5 else NEVER

    kind = source.choice(kinds)
    if kind == "turn":
        inner = [one for one in KINDS if one != "turn"]
        return {"kind": kind, "when": plain(), "first": random_told(source, facts, letters, inner),
                "second": random_told(source, facts, letters, inner)}
    told = {"kind": kind, "ears": {}}
    if kind in ("hint", "tell", "letter", "look"):
        told["who"] = source.choice(letters)
    if kind == "letter":
        told["to"] = source.choice([letter for letter in letters if letter != told["who"]])
    if kind != "none":
        told["what"] = plain() if kind == "look" else random_saying(source, source.randint(1, 5), facts, letters)
    for name, has_it in (("lies", ("tell", "letter")), ("lost", ("letter",)), ("dim", ("look",))):
        if kind in has_it:
            told[name] = rarely(plain())
    if kind != "look":
        for letter in letters:
            if source.random() < 0.6:
                told["ears"][letter] = source.choice([Truth(True), NEVER, plain(), plain()])
    return told


def made(told, as_text=False):
    """The deed that is told, its sayings passed as they are or as texts."""
    def given(saying):
        return f" ({saying})" if as_text else saying

    kind = told["kind"]
    if kind == "turn":
        return Turn(given(told["when"]), made(told["first"], as_text), made(told["second"], as_text))
    ears = {letter: given(ear) for letter, ear in told["ears"].items()}
    conditions = {name: given(told[name]) for name in ("lies", "lost", "dim") if name in told}
    if kind == "none":
        return Deed(**ears)
    what = given(told["what"])
    if kind == "look":
        return Look(told["who"], what, **conditions)
    if kind == "letter":
        return Letter(told["who"], told["to"], what, **conditions, **ears)
    if kind in ("hint", "tell"):
        return {"hint": Hint, "tell": Tell}[kind](told["who"], what, **conditions, **ears)
    return {"voice": Voice, "call": Call}[kind](what, **ears)


def said_in(told, table, case):
    """The word that is said in the case, read off point 35."""
    kind = told["kind"]
    if kind == "none":
        return "-"
    if kind == "turn":
        return said_in(told["first"] if true_in(table, case, told["when"]) else told["second"], table, case)
    if kind in ("voice", "look"):
        return "yes" if true_in(table, case, told["what"]) else "no"
    if kind == "call":
        callers = [letter for letter in table.house.people if what_they_say(table, case, letter, told["what"]) != "unsure"]
        return "".join(callers) or "-"
    word = what_they_say(table, case, told["who"], told["what"])
    if kind == "hint":
        return "yes" if word == "yes" else "-"
    if true_in(table, case, told["lies"]):
        return {"yes": "no", "no": "yes", "unsure": "unsure"}[word]
    return word


def what_they_say(table, case, letter, what):
    truths = [bool(true_in(table, other, what)) for other in table.view(letter).cell(case)]
    return {(True,): "yes", (False,): "no", (False, True): "unsure"}[tuple(sorted(set(truths)))]


def hears_in(told, table, case, letter):
    """Whether the person hears what is said in the case, read off point 35."""
    kind = told["kind"]
    if kind == "turn":
        return hears_in(told["first"] if true_in(table, case, told["when"]) else told["second"], table, case, letter)
    if kind == "look":
        return letter == told["who"] and not true_in(table, case, told["dim"])
    if kind in ("hint", "tell", "letter") and letter == told["who"]:
        return True
    if kind == "letter" and letter == told["to"]:
        return not true_in(table, case, told["lost"])
    return letter in told["ears"] and bool(true_in(table, case, told["ears"][letter]))


def heard_in(told, table, case, letter):
    return said_in(told, table, case) if hears_in(told, table, case, letter) else "-"


def effective_ears(told):
    """The ears that have an effect, in ascending order."""
    people = [told[name] for name in ("who", "to") if name in told]
    return {letter: told["ears"][letter] for letter in sorted(told["ears"])
            if letter not in people and str(told["ears"][letter]) != "false"}


def text_of(told):
    """The text of the deed, read off point 38."""
    kind = told["kind"]
    if kind == "turn":
        return f"turn {told['when']} ?? {text_of(told['first'])} :: {text_of(told['second'])}"
    text = kind + "".join(" " + told[name] for name in ("who", "to") if name in told)
    if "what" in told:
        text += f": {told['what']}"
    for name in ("lies", "lost", "dim"):
        if name in told and str(told[name]) != "false":
            text += f" / {name}: {told[name]}"
    return text + "".join(f" / {letter}: {ear}" for letter, ear in effective_ears(told).items())


def named_in(told):
    """The letters and the names of facts that the deed names, read off point 37."""
    if told["kind"] == "turn":
        parts = [named_in(told["first"]), named_in(told["second"]), ("", told["when"].facts())]
    else:
        ears = effective_ears(told)
        people = [told[name] for name in ("who", "to") if name in told] + list(ears)
        sayings = [told[name] for name in ("what", "lies", "lost", "dim") if name in told] + list(ears.values())
        parts = [("".join(people), [])] + [(saying.letters(), saying.facts()) for saying in sayings]
    letters = "".join(sorted(set("".join(part[0] for part in parts))))
    return letters, sorted({name for part in parts for name in part[1]})


def random_play(source, deeds=None, size=None, facts="pq", letters="abc"):
    """A play with this number of deeds, some of which people hear."""
    house = random_house(source, size or source.randint(1, 6), facts, letters)
    many = source.randint(0, 4) if deeds is None else deeds
    signs = source.sample("abcdmwxyz", many)
    return Play(house, **{sign: made(random_told(source, facts, letters)) for sign in signs})


def rows_up_to(signs, length):
    """All rows of at most this length, the shorter ones first, equally long ones in alphabetical order."""
    rows = [""]
    for row in rows:
        if len(row) < length:
            rows += [row + sign for sign in signs]
    return rows
