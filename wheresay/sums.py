"""The sums of a sheet brought together: what they settle, whether they clash, and the rest rule."""

from wheresay.sayings import PARTS
from wheresay.shares import common, plus, share

# In the order in which the rest rule settles the parts of a box, each with what it is if nothing settles it.
RESTS = (("wide", 8), ("high", 4), ("left", 0), ("top", 0))


def brought_together(sayings, numbers):
    """Tell the sums of the sayings, so many times each, as one sum."""
    parts = {}
    total = 0
    for saying, times in zip(sayings, numbers):
        adds, number = saying.adds()
        for pair, many in adds.items():
            parts[pair] = parts.get(pair, 0) + times * many
        total = total + times * number
    return {pair: many for pair, many in parts.items() if many != 0}, total


def lowered(row):
    """Tell the row parted by all that its numbers have in common."""
    both = 0
    for number in row:
        both = common(both, number)
    return [number // both for number in row] if both > 1 else row


def without(row, at, other):
    """Tell the row, some times, less the other one as often as the part at this place goes away."""
    # The other row has the part more than 0 times, so what the row tells is never turned about.
    many = other[at]
    more = row[at]
    return lowered([many * number - more * less for number, less in zip(row, other)])


class Sums:
    """Sums of sayings, worked into rows of which each settles its last part from the parts ahead.

    A row has a number for each part, in the turn of the rest rule, then the number that they come to, then how
    often each saying is in it, and last how often the sum is in it that is asked about.
    """

    def __init__(self, names, sayings):
        self.boxes = list(names)
        self.turn = [(name, part) for name in names for part, rest in RESTS]
        self.many = len(sayings)
        # From the place of the last part of a row to that row.
        self.rows = {}
        # Numbers, one for each saying, that show a clash.
        self.clash = None
        for at, saying in enumerate(sayings):
            if self.clash is None:
                take(self, at, saying)


def row_of(sums, adds, numbers, times):
    """Tell the row of a sum."""
    parts, number = adds
    return [parts.get(pair, 0) for pair in sums.turn] + [number] + numbers + [times]


def asked(sums, adds):
    """Tell the row that is left of a sum when all that the sayings settle is taken out of it."""
    return left_over(sums, row_of(sums, adds, [0] * sums.many, 1))


def left_over(sums, row):
    """Tell what is left of a row when each part that is the last one of a row is taken out."""
    # From the last part on, as a row that takes out a part brings in none behind it.
    for at in reversed(range(len(sums.turn))):
        if row[at] != 0 and at in sums.rows:
            row = without(row, at, sums.rows[at])
    return row


def last_part(sums, row):
    """Tell the place of the last part that a row has, or -1 if it has none."""
    return max([at for at in range(len(sums.turn)) if row[at] != 0], default=-1)


def numbers_of(sums, row):
    """Tell how often each saying is in a row."""
    return row[len(sums.turn) + 1:-1]


def take(sums, at, saying):
    """Bring in the sum of the saying at this place, or find that it clashes with sums ahead of it."""
    numbers = [0] * sums.many
    numbers[at] = 1
    row = left_over(sums, row_of(sums, saying.adds(), numbers, 0))
    last = last_part(sums, row)
    if last >= 0:
        sums.rows[last] = row if row[last] > 0 else [-number for number in row]
    elif row[len(sums.turn)] != 0:
        # The rows hold only sayings whose parts don't come of each other, so there is just one such lot with
        # this saying, and none of it can be left out.
        sums.clash = numbers_of(sums, row)


def settled(sums, row, shares):
    """Tell the share of the last part of a row, from the shares of the parts ahead."""
    left = share(row[len(sums.turn)], 1)
    for at, ahead in enumerate(shares):
        if row[at] != 0:
            left = plus(left, (-row[at] * ahead[0], ahead[1]))
    return share(left[0], left[1] * row[len(shares)])


def filled(sums, rests):
    """Tell the places in which each part that no row settles is as the rests tell."""
    shares = []
    for at, rest in enumerate(rests):
        shares.append(settled(sums, sums.rows[at], shares) if at in sums.rows else rest)
    told = dict(zip(sums.turn, shares))
    return {name: tuple([told[name, part] for part in PARTS]) for name in sums.boxes}


def rests_of(sums):
    """Tell what each part is if nothing settles it, in their turn."""
    return [share(rest, 1) for name in sums.boxes for part, rest in RESTS]


def rest_places(sums):
    """Tell the places of the rest rule."""
    return filled(sums, rests_of(sums))


def other_places(sums, row):
    """Tell places in which a sum comes to 1 more than in those of the rest rule.

    The row is what is left of the sum, and has a part: no row settles it, so it can be moved.
    """
    last = last_part(sums, row)
    rests = rests_of(sums)
    rests[last] = plus(rests[last], share(row[-1], row[last]))
    return filled(sums, rests)
