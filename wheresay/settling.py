"""Questions about sheets: what is kept, known, what follows and what is moved."""

from wheresay.answers import Breaks, Clash, Follows, Kept, Known, Loose
from wheresay.errors import BadPart, BadSaying, Clashing, Unlike
from wheresay.shares import share
from wheresay.sheets import check_sheet, has_part, is_saying_of
from wheresay.sums import Sums, asked, last_part, numbers_of, other_places, rest_places


def sums_of(sheet):
    """Tell the sums of a sheet, or refuse one that can't be kept."""
    sums = Sums(sheet.names(), sheet.sayings())
    if sums.clash is not None:
        raise Clashing(sums.clash)
    return sums


def shown_by(sums, row):
    """Tell how often each saying is taken to come to the sum whose row has no part left."""
    # In the row the sum and the sayings come to nothing together.
    return [-number for number in numbers_of(sums, row)]


def drawn(sheet):
    """Tell the places that the rest rule gives, or a least lot of sayings that clash."""
    check_sheet(sheet)
    sums = Sums(sheet.names(), sheet.sayings())
    if sums.clash is not None:
        return Clash(sums.clash)
    return Kept(rest_places(sums))


def known(sheet, name, part):
    """Tell what a part of a box must be, or places in which it is 1 more."""
    check_sheet(sheet)
    if not has_part(sheet, name, part):
        raise BadPart("the sheet has no such box, or a box no such part")
    sums = sums_of(sheet)
    row = asked(sums, ({(name, part): 1}, 0))
    if last_part(sums, row) >= 0:
        return Loose(other_places(sums, row))
    times = row[-1]
    # The part was asked for less 0, so the number that is left is turned about.
    return Known(shown_by(sums, row), times, share(-row[len(sums.turn)], times))


def follows(sheet, saying):
    """Tell how a further saying comes of those of a sheet, or places that keep those but not this one."""
    check_sheet(sheet)
    if not is_saying_of(saying, sheet.names()):
        raise BadSaying("this is no saying of the names of the sheet")
    sums = sums_of(sheet)
    places = rest_places(sums)
    if not saying.keeps(places):
        return Breaks(places)
    row = asked(sums, saying.adds())
    if last_part(sums, row) >= 0:
        return Breaks(other_places(sums, row))
    return Follows(shown_by(sums, row), row[-1])


def moved(sheet, other):
    """Tell which boxes have other places in the one sheet than in the other one."""
    check_sheet(sheet)
    check_sheet(other)
    if sheet.names() != other.names():
        raise Unlike("the sheets have other names, or in another turn")
    places = rest_places(sums_of(sheet))
    others = rest_places(sums_of(other))
    return [name for name in sheet.names() if places[name] != others[name]]
