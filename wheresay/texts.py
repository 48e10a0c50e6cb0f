"""Sheets as texts, written and read."""

from wheresay.errors import BadRows, BadSaying
from wheresay.kinds import is_name
from wheresay.sayings import Alike, Amid, At, Beside
from wheresay.sheets import MOST_NAMES, MOST_SAYINGS, Sheet, check_sheet, is_saying_of

DIGITS = "0123456789"
# No number of a saying has more digits.
MOST_DIGITS = 4


def row_of(saying):
    """Tell the row of a saying."""
    if isinstance(saying, At):
        return f"{saying.name} {saying.part} {saying.number}"
    if isinstance(saying, Beside):
        return f"{saying.name} {saying.side} of {saying.other} by {saying.by}"
    if isinstance(saying, Alike):
        return f"{saying.name} {saying.part} as {saying.other} times {saying.times}"
    return f"{saying.name} amid {saying.one} {saying.other} {saying.way}"


def written(sheet):
    """Tell the text of a sheet."""
    check_sheet(sheet)
    rows = [f"box {name}" for name in sheet.names()]
    rows.extend([row_of(saying) for saying in sheet.sayings()])
    return "\n".join(rows)


def number_of(word):
    """Tell the number that a word is, or None if it is not written as numbers are."""
    digits = word.removeprefix("-")
    if not 1 <= len(digits) <= MOST_DIGITS or not all([digit in DIGITS for digit in digits]):
        return None
    number = int(word)
    # This leaves out needless noughts, and -0.
    return number if str(number) == word else None


def saying_of(words):
    """Tell the saying that the words of a row are, or refuse them."""
    if len(words) == 3:
        return At(words[0], words[1], number_of(words[2]))
    if len(words) == 5 and words[1] == "amid":
        return Amid(words[0], words[4], words[2], words[3])
    if len(words) == 6 and words[2] == "of" and words[4] == "by":
        return Beside(words[0], words[1], words[3], number_of(words[5]))
    if len(words) == 6 and words[2] == "as" and words[4] == "times":
        return Alike(words[0], words[1], words[3], number_of(words[5]))
    raise BadSaying("there is no such saying")


def take_box(names, sayings, words, at):
    """Take in the name of a box, or refuse the row."""
    name = words[1]
    if words[0] != "box" or not is_name(name) or name in names or len(names) == MOST_NAMES or sayings:
        raise BadRows(at)
    names.append(name)


def take_saying(names, sayings, words, at):
    """Take in a saying, or refuse the row."""
    try:
        saying = saying_of(words)
    except BadSaying:
        raise BadRows(at) from None
    if not is_saying_of(saying, names) or len(sayings) == MOST_SAYINGS:
        raise BadRows(at)
    sayings.append(saying)


def read(text):
    """Tell the sheet that a text is."""
    if not isinstance(text, str):
        raise BadRows(0)
    names = []
    sayings = []
    for at, row in enumerate(text.split("\n")):
        words = row.split(" ")
        if len(words) == 2:
            take_box(names, sayings, words, at)
        else:
            take_saying(names, sayings, words, at)
    return Sheet(names, sayings)
