"""What any value may be: rows, prices, bundles, kinds, sets of kinds."""

from allbids.errors import Unlike
from allbids.ratios import is_ratio, is_whole, told


def is_row(value, many):
    """Whether any value is a tuple or list of so many items."""
    return isinstance(value, (tuple, list)) and len(value) == many


def is_from_zero(value):
    """Whether any value is a ratio from 0 on."""
    return is_ratio(value) and told(value, "ratio")[0] >= 0


def are_prices(value, kinds):
    """Whether any value is a tuple or list of ratios from 0 on, one for each kind."""
    return is_row(value, kinds) and all([is_from_zero(item) for item in value])


def is_bundle(value, kinds):
    """Whether any value is a tuple or list of integers from 0 on, one for each kind."""
    return is_row(value, kinds) and all([is_whole(item) and item >= 0 for item in value])


def is_kind(value, kinds):
    """Whether any value is the number of a kind."""
    return is_whole(value) and 0 <= value < kinds


def are_kinds(value, kinds):
    """Whether any value is a tuple or list of kinds, each once, in ascending order."""
    if not isinstance(value, (tuple, list)) or not all([is_kind(item, kinds) for item in value]):
        return False
    return all([value[at] < value[at + 1] for at in range(len(value) - 1)])


def check_same_kinds(one, other):
    """Unlike for two objects with unlike numbers of kinds."""
    if one.kinds != other.kinds:
        raise Unlike("kinds")


def told_row(row):
    """A row of ratios, each told as a pair."""
    return tuple([told(item, "ratio") for item in row])


def subsets(kinds):
    """All sets of some kinds, as ascending tuples; each stands behind all sets within it."""
    found = [()]
    for kind in kinds:
        found = found + [part + (kind,) for part in found]
    return found


def frozen(value):
    """A copy of a value in which tuples stand for all lists, also within one another."""
    if isinstance(value, (tuple, list)):
        return tuple([frozen(item) for item in value])
    return value
