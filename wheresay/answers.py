"""What is told of sheets and blocks; each answer tells whether it is so, from what it holds."""

from wheresay.blocks import Field, can_be_led
from wheresay.heights import heights_show, points_show, way_height
from wheresay.kinds import is_pair, is_whole
from wheresay.places import are_places, keep_all, part_of
from wheresay.shares import is_share, plus, share
from wheresay.sheets import Sheet, has_part, is_saying_of
from wheresay.sums import Sums, brought_together, rest_places


def copied(value):
    """Copy lists, dicts and tuples with all that is within; whatever else is told as it is."""
    if isinstance(value, list):
        return [copied(one) for one in value]
    if isinstance(value, tuple):
        return tuple([copied(one) for one in value])
    if isinstance(value, dict):
        # Pairs of numbers hold nothing to copy.
        return {key: one if is_pair(one) else copied(one) for key, one in value.items()}
    return value


def kept_sums(sheet):
    """Tell the sums of a sheet that can be kept, or None of anything else."""
    if not isinstance(sheet, Sheet):
        return None
    sums = Sums(sheet.names(), sheet.sayings())
    return sums if sums.clash is None else None


def are_numbers(value, many):
    """Tell whether a value is a list of so many numbers."""
    return isinstance(value, list) and len(value) == many and all([is_whole(number) for number in value])


def are_times(value):
    """Tell whether a value is a number that is 1 at least."""
    return is_whole(value) and value >= 1


def is_least(names, lot):
    """Tell whether a lot of sayings can be kept without any one of them."""
    return all([Sums(names, lot[:at] + lot[at + 1:]).clash is None for at in range(len(lot))])


class Answer:
    """Whatever is told of a sheet or of blocks."""


class Kept(Answer):
    """The places of the rest rule, which keep all sayings."""

    def __init__(self, places):
        self.places = copied(places)

    def shows(self, sheet):
        """Tell whether the places are those of the rest rule."""
        sums = kept_sums(sheet)
        if sums is None or not are_places(self.places, sheet.names()):
            return False
        return self.places == rest_places(sums)


class Clash(Answer):
    """A least lot of sayings that can't be kept together, and how often each is taken to show it."""

    def __init__(self, numbers):
        self.numbers = copied(numbers)

    def shows(self, sheet):
        """Tell whether the sums come to no part but a number, and none of the sayings can be left out."""
        if not isinstance(sheet, Sheet):
            return False
        sayings = sheet.sayings()
        if not are_numbers(self.numbers, len(sayings)):
            return False
        parts, number = brought_together(sayings, self.numbers)
        if parts != {} or number == 0:
            return False
        return is_least(sheet.names(), [saying for saying, many in zip(sayings, self.numbers) if many != 0])


class Known(Answer):
    """The share that a part must be, and sums that come to that part alone."""

    def __init__(self, numbers, times, value):
        self.numbers = copied(numbers)
        self.times = copied(times)
        self.value = copied(value)

    def shows(self, sheet, name, part):
        """Tell whether the sums come to the part, so many times, and the share is what it must be."""
        if kept_sums(sheet) is None or not has_part(sheet, name, part):
            return False
        sayings = sheet.sayings()
        if not are_numbers(self.numbers, len(sayings)) or not are_times(self.times) or not is_share(self.value):
            return False
        parts, number = brought_together(sayings, self.numbers)
        return parts == {(name, part): self.times} and self.value == share(number, self.times)


class Loose(Answer):
    """Other places that keep all sayings, in which a part is 1 more than in those of the rest rule."""

    def __init__(self, places):
        self.places = copied(places)

    def shows(self, sheet, name, part):
        """Tell whether the places keep all sayings, and the part is 1 more."""
        sums = kept_sums(sheet)
        if sums is None or not has_part(sheet, name, part) or not are_places(self.places, sheet.names()):
            return False
        more = plus(part_of(rest_places(sums), name, part), (1, 1))
        return keep_all(self.places, sheet.sayings()) and part_of(self.places, name, part) == more


class Follows(Answer):
    """Sums of a sheet that come to the sum of a further saying, so many times."""

    def __init__(self, numbers, times):
        self.numbers = copied(numbers)
        self.times = copied(times)

    def shows(self, sheet, saying):
        """Tell whether the sums come to the saying's sum, so many times."""
        if kept_sums(sheet) is None or not is_saying_of(saying, sheet.names()):
            return False
        sayings = sheet.sayings()
        if not are_numbers(self.numbers, len(sayings)) or not are_times(self.times):
            return False
        return brought_together(sayings, self.numbers) == brought_together([saying], [self.times])


class Breaks(Answer):
    """Places that keep all sayings of a sheet, but not a further one."""

    def __init__(self, places):
        self.places = copied(places)

    def shows(self, sheet, saying):
        """Tell whether the places keep all sayings of the sheet, but not this one."""
        if kept_sums(sheet) is None or not is_saying_of(saying, sheet.names()):
            return False
        if not are_places(self.places, sheet.names()):
            return False
        return keep_all(self.places, sheet.sayings()) and not saying.keeps(self.places)


class Led(Answer):
    """A best way from one block to another one, and heights that show that none is better."""

    def __init__(self, points, heights):
        self.points = copied(points)
        self.heights = copied(heights)

    def shows(self, blocks, one, other):
        """Tell whether the points are a way, and the heights show that none is better."""
        if not can_be_led(blocks, one, other):
            return False
        field = Field(blocks, one, other)
        best = way_height(field, self.points)
        return best is not None and heights_show(field, self.heights, best)


class Walled(Answer):
    """Points that show that there is no way from one block to another one."""

    def __init__(self, points):
        self.points = copied(points)

    def shows(self, blocks, one, other):
        """Tell whether the points show that there is no way."""
        return can_be_led(blocks, one, other) and points_show(Field(blocks, one, other), self.points)
