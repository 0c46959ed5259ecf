"""Sets of prices that are told by bounds."""

from allbids.bounds import no_bounds, tight
from allbids.checks import are_prices, check_same_kinds, is_from_zero, is_kind, is_row, told_row
from allbids.errors import BadRow, Unlike
from allbids.ratios import is_ratio, less, lowest, minus, told
from allbids.scales import common_bottom, scaled


class Region:
    """All prices from 0 on that keep bounds, told by its tight bounds."""

    def __init__(self, lows, highs, gaps):
        check_bounds(lows, highs, gaps)
        kinds = len(lows)
        rows, bottom = bounds_of(lows, highs, gaps)
        closed = tight(rows)
        if closed is None:
            raise Unlike("bounds")
        self.kinds = kinds
        self.lows = tuple([lowest(-closed[kinds][k], bottom) for k in range(kinds)])
        self.highs = tuple([told_end(closed[k][kinds], bottom) for k in range(kinds)])
        self.gaps = told_gaps(closed, bottom)

    def __eq__(self, other):
        return (isinstance(other, Region) and self.kinds == other.kinds and self.lows == other.lows
                and self.highs == other.highs and self.gaps == other.gaps)

    def has(self, prices):
        """Whether prices are in the region."""
        if not are_prices(prices, self.kinds):
            raise BadRow(prices)
        place = told_row(prices)
        if any([less(place[k], self.lows[k]) for k in range(self.kinds)]):
            return False
        if any([above(place[k], self.highs[k]) for k in range(self.kinds)]):
            return False
        return not any([less(c, minus(place[i], place[j])) for i, j, c in self.gaps])

    def common(self, other):
        """The Region of all prices that are in both; None if there are none."""
        check_same_kinds(self, other)
        lows = [one if less(two, one) else two for one, two in zip(self.lows, other.lows)]
        highs = [two if above(one, two) else one for one, two in zip(self.highs, other.highs)]
        try:
            return Region(lows, highs, self.gaps + other.gaps)
        except Unlike:
            return None

    def within(self, other):
        """Whether all prices of the region are in another one."""
        check_same_kinds(self, other)
        both = self.common(other)
        return both is not None and both == self


def check_bounds(lows, highs, gaps):
    """BadRow for the first of the arguments of a Region that is wrong."""
    if not isinstance(lows, (tuple, list)) or not 1 <= len(lows) <= 3 or not are_prices(lows, len(lows)):
        raise BadRow(lows)
    if not is_row(highs, len(lows)) or not all([high is None or is_from_zero(high) for high in highs]):
        raise BadRow(highs)
    for row in gaps:
        if not is_gap(row, len(lows)):
            raise BadRow(row)


def is_gap(row, kinds):
    """Whether any value is a row of two unlike kinds and a ratio."""
    if not is_row(row, 3) or not is_kind(row[0], kinds) or not is_kind(row[1], kinds):
        return False
    return row[0] != row[1] and is_ratio(row[2])


def bounds_of(lows, highs, gaps):
    """Bounds as whole numbers, and their bottom."""
    least = told_row(lows)
    most = [(k, told(highs[k], "ratio")) for k in range(len(highs)) if highs[k] is not None]
    apart = [(i, j, told(c, "ratio")) for i, j, c in gaps]
    bottom = common_bottom(list(least) + [high for _, high in most] + [c for _, _, c in apart])
    zero = len(least)
    rows = no_bounds(zero)
    for k in range(zero):
        rows[zero][k] = -scaled(least[k], bottom)
    for k, high in most:
        rows[k][zero] = scaled(high, bottom)
    for i, j, c in apart:
        gap = scaled(c, bottom)
        if rows[i][j] is None or gap < rows[i][j]:
            rows[i][j] = gap
    return rows, bottom


def whole_bounds(region, ratios):
    """The tight bounds of a region as whole numbers over a bottom that fits for further ratios too, and this
    bottom."""
    bounds, bottom = bounds_of(region.lows, region.highs, region.gaps)
    whole = common_bottom([(0, bottom)] + ratios)
    rows = [[None if item is None else item * (whole // bottom) for item in row] for row in bounds]
    return tight(rows), whole


def told_end(number, bottom):
    """A greatest price as a ratio; None if there is none."""
    if number is None:
        return None
    return lowest(number, bottom)


def told_gaps(rows, bottom):
    """The rows (i, j, c) of all gaps that there are, ascending."""
    kinds = range(len(rows) - 1)
    pairs = [(i, j) for i in kinds for j in kinds if i != j and rows[i][j] is not None]
    return tuple([(i, j, lowest(rows[i][j], bottom)) for i, j in pairs])


def above(one, other):
    """Whether a ratio, or None for no bound, is above another one."""
    if other is None:
        return False
    return one is None or less(other, one)
