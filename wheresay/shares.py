"""Shares: pairs of numbers, the first one parted by the second one."""

from wheresay.kinds import is_pair


def common(one, other):
    """Tell the greatest number that parts both without a rest."""
    one = abs(one)
    other = abs(other)
    while other != 0:
        one, other = other, one % other
    return one


def share(upper, lower):
    """Tell the share of one number parted by another one that isn't 0."""
    if lower < 0:
        upper, lower = -upper, -lower
    both = common(upper, lower)
    return upper // both, lower // both


def plus(one, other):
    """Tell two shares together."""
    return share(one[0] * other[1] + other[0] * one[1], one[1] * other[1])


def is_share(value):
    """Tell whether a value is a share, told as all shares are."""
    return is_pair(value) and value[1] >= 1 and common(value[0], value[1]) == 1
