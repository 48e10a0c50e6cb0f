"""The four sorts of sayings, each with its names and its sum."""

from wheresay.errors import BadSaying
from wheresay.kinds import are_unlike_names, is_number

# In the order in which places tell them.
PARTS = ("left", "top", "wide", "high")

# Each side and each way goes with where a box begins and how far it reaches.
SIDES = {
    "right": ("left", "wide"),
    "left": ("left", "wide"),
    "below": ("top", "high"),
    "above": ("top", "high"),
}
WAYS = {"across": ("left", "wide"), "down": ("top", "high")}

FARTHEST = 1000
MOST_TIMES = 9


def check_names(names):
    """Refuse what are no unlike names."""
    if not are_unlike_names(names):
        raise BadSaying("a saying is of unlike names of 1 to 8 small letters")


def check_word(word, words):
    """Refuse what is none of the words."""
    # Asked first, as a value of another kind may claim to equal a word.
    if not isinstance(word, str) or word not in words:
        raise BadSaying("there is no such part, side or way")


def check_number(value, least, most):
    """Refuse what is no number from the least to the most one."""
    if not is_number(value, least, most):
        raise BadSaying("there is no such number in a saying")


def comes_out(adds, places):
    """Tell whether the parts of a sum come to its number at these places."""
    parts, number = adds
    # The running total is a share, upper parted by lower, so that nothing is rounded.
    upper = -number
    lower = 1
    for (name, part), many in parts.items():
        over, under = places[name][PARTS.index(part)]
        upper = upper * under + many * over * lower
        lower = lower * under
    return upper == 0


class Saying:
    """The class above the four sorts; it is not made itself."""

    def names(self):
        """Tell the names, as they were handed in."""
        raise NotImplementedError("each sort of saying tells its own names")

    def adds(self):
        """Tell the sum: a dict from pairs of a name and a part to numbers, and a number."""
        raise NotImplementedError("each sort of saying tells its own sum")

    def keeps(self, places):
        """Tell whether the saying is so at these places."""
        raise NotImplementedError("each sort of saying tells whether places keep it")


class At(Saying):
    """A part of a box is a number."""

    def __init__(self, name, part, number):
        check_names([name])
        check_word(part, PARTS)
        check_number(number, -FARTHEST, FARTHEST)
        self.name = name
        self.part = part
        self.number = number

    def names(self):
        """Tell the names, as they were handed in."""
        return [self.name]

    def adds(self):
        """Tell the sum."""
        return {(self.name, self.part): 1}, self.number

    def keeps(self, places):
        """Tell whether the saying is so at these places."""
        return comes_out(self.adds(), places)


class Beside(Saying):
    """A box is at a side of another one, so far off."""

    def __init__(self, name, side, other, by=0):
        check_names([name, other])
        check_word(side, list(SIDES))
        check_number(by, -FARTHEST, FARTHEST)
        self.name = name
        self.side = side
        self.other = other
        self.by = by

    def names(self):
        """Tell the names, as they were handed in."""
        return [self.name, self.other]

    def adds(self):
        """Tell the sum."""
        begin, reach = SIDES[self.side]
        ahead = (self.name, begin)
        behind = (self.other, begin)
        if self.side in ("right", "below"):
            return {ahead: 1, behind: -1, (self.other, reach): -1}, self.by
        # Here the number stands ahead of the `are`, so it is turned about.
        return {ahead: 1, (self.name, reach): 1, behind: -1}, -self.by

    def keeps(self, places):
        """Tell whether the saying is so at these places."""
        return comes_out(self.adds(), places)


class Alike(Saying):
    """A part of a box is so many times the same part of another one."""

    def __init__(self, name, part, other, times=1):
        check_names([name, other])
        check_word(part, PARTS)
        check_number(times, 1, MOST_TIMES)
        self.name = name
        self.part = part
        self.other = other
        self.times = times

    def names(self):
        """Tell the names, as they were handed in."""
        return [self.name, self.other]

    def adds(self):
        """Tell the sum."""
        return {(self.name, self.part): 1, (self.other, self.part): -self.times}, 0

    def keeps(self, places):
        """Tell whether the saying is so at these places."""
        return comes_out(self.adds(), places)


class Amid(Saying):
    """A box is amid two others, across or down."""

    def __init__(self, name, way, one, other):
        check_names([name, one, other])
        check_word(way, list(WAYS))
        self.name = name
        self.way = way
        self.one = one
        self.other = other

    def names(self):
        """Tell the names, as they were handed in."""
        return [self.name, self.one, self.other]

    def adds(self):
        """Tell the sum."""
        begin, reach = WAYS[self.way]
        # Begin and end together are twice the begin and once the reach.
        parts = {(self.name, begin): 4, (self.name, reach): 2}
        for name in (self.one, self.other):
            parts[name, begin] = -2
            parts[name, reach] = -1
        return parts, 0

    def keeps(self, places):
        """Tell whether the saying is so at these places."""
        return comes_out(self.adds(), places)
