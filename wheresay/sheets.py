"""Sheets: names of boxes and sayings of them."""

from wheresay.errors import BadSheet
from wheresay.kinds import are_unlike_names, is_name, is_number
from wheresay.sayings import PARTS, Alike, Amid, At, Beside

MOST_NAMES = 6
MOST_SAYINGS = 16


def check_boxes(names):
    """Refuse what is no list of 1 to 6 unlike names."""
    if not isinstance(names, list) or not 1 <= len(names) <= MOST_NAMES:
        raise BadSheet("a sheet has a list of 1 to 6 names")
    if not are_unlike_names(names):
        raise BadSheet("the names of a sheet are unlike, each of 1 to 8 small letters")


def is_saying_of(value, names):
    """Tell whether a value is a saying that has no names but these."""
    # Not the class above them: a bare one of it says nothing.
    if not isinstance(value, (At, Beside, Alike, Amid)):
        return False
    return all([name in names for name in value.names()])


def check_sayings(sayings, names):
    """Refuse what is no list of up to 16 sayings of these names."""
    if not isinstance(sayings, list) or len(sayings) > MOST_SAYINGS:
        raise BadSheet("a sheet has a list of none to 16 sayings")
    if not all([is_saying_of(saying, names) for saying in sayings]):
        raise BadSheet("a sheet has sayings of its names only")


def check_sheet(value):
    """Refuse what is no sheet."""
    if not isinstance(value, Sheet):
        raise BadSheet("this is no sheet")


def check_place(sheet, at, behind):
    """Refuse what is no sheet, and a place ahead of the first one or too far behind the last one."""
    check_sheet(sheet)
    if not is_number(at, 0, len(sheet.sayings()) - 1 + behind):
        raise BadSheet("the sheet has no such place")


class Sheet:
    """Names of boxes, and sayings of them."""

    def __init__(self, names, sayings):
        check_boxes(names)
        check_sayings(sayings, names)
        self.boxes = list(names)
        self.said = list(sayings)

    def names(self):
        """Tell the names of the boxes, in their turn."""
        return list(self.boxes)

    def sayings(self):
        """Tell the sayings, in their turn."""
        return list(self.said)


def has_part(sheet, name, part):
    """Tell whether a sheet has a box of this name, and boxes have this part."""
    if not is_name(name) or not isinstance(part, str):
        return False
    return name in sheet.names() and part in PARTS


def put(sheet, at, saying):
    """Tell the sheet that has the saying at this place besides."""
    check_place(sheet, at, 1)
    sayings = sheet.sayings()
    sayings.insert(at, saying)
    return Sheet(sheet.names(), sayings)


def taken(sheet, at):
    """Tell the sheet that lacks the saying at this place."""
    check_place(sheet, at, 0)
    sayings = sheet.sayings()
    del sayings[at]
    return Sheet(sheet.names(), sayings)
