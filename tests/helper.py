"""What several tests need: values of other kinds, shares, places, and the meaning of a saying."""

from fractions import Fraction
from itertools import product

PARTS = ("left", "top", "wide", "high")


class Agreeing:
    """Of no kind that is asked for, but equal to whatever it is compared with."""

    def __eq__(self, other):
        return True

    def __hash__(self):
        return hash("left")


def values():
    """One value or more of each kind, made anew, so that no test spoils them for the next one."""
    return [
        True, False, None, "", "a", "left", "right", "across", "3", b"", b"a", b"left",
        0, 1, -1, 3, 1001, 10 ** 5000, [], ["a"], ["left"], [3], (), ("a",), ("left",), (3,),
        {}, {"a": 1}, {"left": 1}, {3: 3}, {"a"}, object(), Agreeing(), len, ValueError, ValueError("a"),
    ]


def others(*kinds):
    """The values of none of these kinds; True and False are no numbers."""
    return [value for value in values() if isinstance(value, bool) or not isinstance(value, kinds)]


def share(value):
    """The share that a number or a Fraction is."""
    value = Fraction(value)
    return (value.numerator, value.denominator)


def box(left, top, wide, high):
    """A tuple of four shares."""
    return (share(left), share(top), share(wide), share(high))


def many_places(names):
    """Places of the boxes with each of some numbers, whole ones and others, in each turn."""
    some = [Fraction(0), Fraction(1), Fraction(-3, 2), Fraction(7, 3)]
    rows = list(product(some, repeat=4))
    for first in range(0, len(rows), 7):
        yield {name: box(*rows[(first + 41 * at) % len(rows)]) for at, name in enumerate(names)}


def edges(places, name):
    """The parts of a box by name, and its right and its bottom."""
    told = {part: Fraction(*one) for part, one in zip(PARTS, places[name])}
    told["right"] = told["left"] + told["wide"]
    told["bottom"] = told["top"] + told["high"]
    return told


def comes_to(adds, places):
    """The parts of a sum, so many times each."""
    parts, number = adds
    return sum((many * edges(places, name)[part] for (name, part), many in parts.items()), Fraction(0))


def shape(saying):
    """What a saying tells of itself, to compare it by."""
    return (saying.__class__.__name__, saying.names(), saying.adds())
