"""What counts as a number and as a name."""

LETTERS = "abcdefghijklmnopqrstuvwxyz"
LONGEST_NAME = 8


def is_number(value, least, most):
    """Tell whether a value is a whole number from the least to the most one."""
    # Python takes True and False for numbers; the program does not.
    if isinstance(value, bool) or not isinstance(value, int):
        return False
    return least <= value <= most


def is_name(value):
    """Tell whether a value is a text of 1 to 8 small letters."""
    if not isinstance(value, str) or not 1 <= len(value) <= LONGEST_NAME:
        return False
    return all([letter in LETTERS for letter in value])


def are_unlike_names(values):
    """Tell whether each value of a list is a name, and none stands there twice."""
    if not all([is_name(value) for value in values]):
        return False
    return len(set(values)) == len(values)
