"""What counts as a number, as a pair and as a name."""

LETTERS = "abcdefghijklmnopqrstuvwxyz"
LONGEST_NAME = 8


def is_whole(value):
    """Tell whether a value is a whole number, however far off."""
    # Python takes True and False for numbers; the program does not.
    return isinstance(value, int) and not isinstance(value, bool)


def is_number(value, least, most):
    """Tell whether a value is a whole number from the least to the most one."""
    return is_whole(value) and least <= value <= most


def is_pair(value):
    """Tell whether a value is a pair of whole numbers."""
    if not isinstance(value, tuple) or len(value) != 2:
        return False
    one, other = value
    # Spelled out, without further calls, as this is asked of each height of a field.
    if isinstance(one, bool) or isinstance(other, bool):
        return False
    return isinstance(one, int) and isinstance(other, int)


def is_name(value):
    """Tell whether a value is a text of 1 to 8 small letters."""
    if not isinstance(value, str) or not 1 <= len(value) <= LONGEST_NAME:
        return False
    return all([letter in LETTERS for letter in value])


def are_unlike_names(values):
    """Tell whether each value of a list is a name, and none stands there twice."""
    if not all([is_name(value) for value in values]):
        return False
    return len(set(values)) == len(values)
