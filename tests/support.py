"""What the tests of several modules need."""

import copy
import random
import types
import unittest

from thinwall.sayings import And, Common, Fact, Knows, Not, Or, Truth, Whether
from thinwall.splits import Split, splits_of

HUGE = int("9" * 40)
OTHER_THINGS = (None, 0, 1, True, "", "0", "p", [], [0], (0,), {}, object())


class Checks(unittest.TestCase):
    def assert_error(self, wanted, call, *args, **keywords):
        """The call raises an error like the one that is wanted, and changes nothing."""
        things = things_of_call(call, args, keywords)
        kept = [parts_of(thing) for thing in copy.deepcopy(things)]
        with self.assertRaises(type(wanted)) as caught:
            call(*args, **keywords)
        self.assertIs(type(caught.exception), type(wanted))
        self.assertEqual(vars(caught.exception), vars(wanted))
        self.assertEqual([parts_of(thing) for thing in things], kept)

    def assert_errors_in_order(self, call, good, *wrong):
        """Each wrong value alone, and each pair of them at once, raises the error of the earlier one.

        The arguments of the good call are a dict; each wrong one is (changes of it, error).
        """
        call(**good)
        for at, (changes, wanted) in enumerate(wrong):
            self.assert_error(wanted, call, **{**good, **changes})
            for later, _ in wrong[at + 1:]:
                self.assertFalse(set(later) & set(changes))
                self.assert_error(wanted, call, **{**good, **later, **changes})

    def assert_unlike_other_things(self, thing):
        for other in OTHER_THINGS:
            self.assertFalse(thing == other)
            self.assertTrue(thing != other)
            self.assertFalse(other == thing)
            self.assertTrue(other != thing)

    def assert_fresh_list(self, method, *args):
        """What the method returns can be changed, also within, and the next result is as the first one."""
        first = method(*args)
        kept = copy.deepcopy(first)
        spoil(first)
        self.assertEqual(method(*args), kept)

    def assert_leaves_arguments(self, call, *args, **keywords):
        kept = copy.deepcopy((args, keywords))
        result = call(*args, **keywords)
        self.assertEqual((args, keywords), kept)
        return result


def things_of_call(call, args, keywords):
    """The arguments, and the object whose method is called."""
    things = [getattr(call, "__self__", None), *args, *keywords.values()]
    return [thing for thing in things if not isinstance(thing, (types.ModuleType, types.GeneratorType))]


def parts_of(thing):
    """The thing itself, or what it is made of if things of its kind are not compared; the same for its parts."""
    if isinstance(thing, (list, tuple)):
        return [parts_of(part) for part in thing]
    if isinstance(thing, dict):
        return {key: parts_of(value) for key, value in thing.items()}
    if type(thing).__eq__ is object.__eq__ and hasattr(thing, "__dict__"):
        return {name: parts_of(value) for name, value in vars(thing).items()}
    return thing


def spoil(found):
    for item in found:
        if isinstance(item, list):
            spoil(item)
    found.append("spoilt")
    found.reverse()


def all_splits(most):
    return [split for size in range(1, most + 1) for split in splits_of(size)]


def random_split(source, size):
    return Split([source.randrange(size) for _ in range(size)])


def random_group(source, letters):
    return "".join(sorted(source.sample(letters, source.randint(1, len(letters)))))


def random_saying(source, size, facts="pqr", letters="abc"):
    """A saying with exactly this number of parts."""
    if size == 1:
        return Fact(source.choice(facts)) if source.random() < 0.8 else Truth(source.random() < 0.5)
    if size == 2 or source.random() < 0.5:
        inner = random_saying(source, size - 1, facts, letters)
        kind = source.choice([Not, Knows, Whether, Common])
        return Not(inner) if kind is Not else kind(random_group(source, letters), inner)
    first = source.randint(1, size - 2)
    return source.choice([And, Or])(
        random_saying(source, first, facts, letters), random_saying(source, size - 1 - first, facts, letters))


def random_plain(source, size, facts="pqr"):
    """A plain saying with exactly this number of parts."""
    if size == 1:
        return Fact(source.choice(facts)) if source.random() < 0.8 else Truth(source.random() < 0.5)
    if size == 2 or source.random() < 0.4:
        return Not(random_plain(source, size - 1, facts))
    first = source.randint(1, size - 2)
    return source.choice([And, Or])(random_plain(source, first, facts), random_plain(source, size - 1 - first, facts))


def source_of(seed):
    return random.Random(seed)
