"""Places: of each box of a sheet its four parts, as shares."""

from wheresay.kinds import is_name
from wheresay.sayings import PARTS
from wheresay.shares import is_share


def is_place(value):
    """Tell whether a value is a tuple of four shares."""
    if not isinstance(value, tuple) or len(value) != len(PARTS):
        return False
    return all([is_share(part) for part in value])


def are_places(value, names):
    """Tell whether a value is a dict of places of just these boxes; their turn counts for nothing."""
    if not isinstance(value, dict) or len(value) != len(names):
        return False
    if not all([is_name(name) and name in names for name in value]):
        return False
    return all([is_place(place) for place in value.values()])


def part_of(places, name, part):
    """Tell the share of a part of a box."""
    return places[name][PARTS.index(part)]


def keep_all(places, sayings):
    """Tell whether places keep each of the sayings."""
    return all([saying.keeps(places) for saying in sayings])
