"""Reading the texts of deeds."""

from thinwall.acts import Call, Look, Turn
from thinwall.checks import is_letter
from thinwall.deeds import Deed, Hint, Letter, Tell, Voice
from thinwall.errors import BadText, ThinwallError


def read_deed(text):
    """The deed that has exactly this text."""
    try:
        deed = _described_deed(text)
    except ThinwallError:
        raise BadText(text) from None
    # Whatever is wrong in the text is missing in the text of this deed.
    if str(deed) != text:
        raise BadText(text)
    return deed


def _described_deed(text):
    """The deed with this text, if the text is one of a deed; otherwise any deed or error."""
    if not text.startswith("turn "):
        return _single_deed(text)
    when, _, deeds = text.removeprefix("turn ").partition(" ?? ")
    first, _, second = deeds.partition(" :: ")
    return Turn(when, _single_deed(first), _single_deed(second))


def _single_deed(text):
    """The same for a deed that is no Turn."""
    head, *parts = text.split(" / ")
    title, _, what = head.partition(": ")
    kind, *people = title.split(" ")
    who = "".join(people[:1])
    told = _titled(kind, parts)
    if kind == "none":
        return Deed(**told)
    if kind == "voice":
        return Voice(what, **told)
    if kind == "hint":
        return Hint(who, what, **told)
    if kind == "tell":
        return Tell(who, what, **told)
    if kind == "letter":
        to = "".join(people[1:])
        return Letter(who, to, what, **told)
    if kind == "look":
        return Look(who, what, **told)
    if kind == "call":
        return Call(what, **told)
    raise BadText(text)


def _titled(kind, parts):
    """The texts of what stands behind the beginning, under their titles."""
    told = {}
    for part in parts:
        title, _, saying = part.partition(": ")
        if not _is_title(kind, title):
            raise BadText(part)
        told[title] = saying
    return told


def _is_title(kind, title):
    """Whether the title is the keyword of an ear or of a condition, and of no other argument."""
    if kind == "look":
        return title == "dim"
    return is_letter(title) or title in ("lies", "lost")
