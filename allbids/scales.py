"""Ratios as whole numbers over a common bottom, so that all further reckoning is in whole numbers."""

from math import lcm

from allbids.ratios import lowest


def common_bottom(ratios):
    """The least number that the bottoms of all these ratios, told as pairs, divide."""
    bottom = 1
    for ratio in ratios:
        bottom = lcm(bottom, ratio[1])
    return bottom


def scaled(ratio, bottom):
    """The top of a ratio over this bottom, which its own bottom divides."""
    return ratio[0] * (bottom // ratio[1])


def scaled_row(row, bottom):
    """The tops of a row of ratios over this bottom."""
    return tuple([scaled(ratio, bottom) for ratio in row])


def told_tops(tops, bottom):
    """The ratios that a row of tops over one bottom tells, as pairs."""
    return tuple([lowest(top, bottom) for top in tops])


def ascending(rows):
    """Equally long tuples of ratios, told as pairs, as a list in ascending order of their values."""
    if not rows:
        return []
    bottoms = [common_bottom([row[k] for row in rows]) for k in range(len(rows[0]))]
    keyed = [(tuple([scaled(row[k], bottoms[k]) for k in range(len(row))]), row) for row in rows]
    return [row for _, row in sorted(keyed)]


def ratios_of(bids):
    """All numbers of all bids of a list."""
    return [number for _, numbers in bids.rows for number in numbers]


def scaled_bids(bids, bottom):
    """The bids of a list, pairs (weight, numbers), with their numbers as tops over this bottom."""
    return [(weight, scaled_row(numbers, bottom)) for weight, numbers in bids.rows]
