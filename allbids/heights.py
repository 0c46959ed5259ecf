"""Worths and least prices when one number of a bid goes up."""

from allbids.checks import are_prices, is_bundle, is_kind, is_row, told_row
from allbids.errors import BadNumber, BadRow
from allbids.ratios import is_whole, less, lowest, minus, plus, times
from allbids.regrets import whole_worth_of
from allbids.scales import ascending, common_bottom, ratios_of, scaled_bids, scaled_row
from allbids.worths import check_buyer, moved


def worth_heights(bids, bid, kind, bundle):
    """The pieces of the worth of a bundle, by the height of one number of a further bid."""
    check_further(bids, bid, kind)
    if not is_bundle(bundle, bids.kinds):
        raise BadRow(bundle)
    return tuple(worth_pieces(bids, bid, kind, tuple(bundle)))


def price_heights(bids, bid, kind, supply, other):
    """The pieces of the least price of a kind at a supply, by the height of one number of a further bid."""
    check_further(bids, bid, kind)
    if not is_bundle(supply, bids.kinds):
        raise BadRow(supply)
    if not is_kind(other, bids.kinds):
        raise BadNumber("other", other)
    more = worth_pieces(bids, bid, kind, moved(tuple(supply), other, 1))
    return tuple(apart(more, worth_pieces(bids, bid, kind, tuple(supply))))


def check_further(bids, bid, kind):
    """The errors of a buyer, of a further bid, and of its kind that is left open."""
    check_buyer(bids)
    if not is_row(bid, 2) or not is_whole(bid[0]) or bid[0] < 1 or not are_prices(bid[1], bids.kinds):
        raise BadRow(bid)
    if not is_kind(kind, bids.kinds):
        raise BadNumber("kind", kind)


def worth_pieces(bids, bid, kind, bundle):
    """The pieces of the worth of a bundle: at each height it is the greatest of some lines."""
    lines, bottom = lines_of(bids, bid, kind, bundle)
    most, slope = max([(lines[units], units) for units in range(len(lines))])
    pieces = [((0, 1), lowest(most, bottom), slope)]
    while slope + 1 < len(lines):
        height, slope = next_turn(lines, slope, bottom)
        pieces.append((height, plus((lines[slope], bottom), times(slope, height)), slope))
    return pieces


def lines_of(bids, bid, kind, bundle):
    """What a bundle is worth at the height 0 if just so many units of the open kind go to units of the further bid,
    for all numbers of units from 0 on, as tops, and their bottom. At each height each of these units brings the
    height more."""
    weight, row = bid
    numbers = told_row(row[:kind]) + ((0, 1),) + told_row(row[kind + 1:])
    bottom = common_bottom(ratios_of(bids) + list(numbers))
    rows, further = scaled_bids(bids, bottom), scaled_row(numbers, bottom)
    lines = []
    for units in range(min(weight, bundle[kind]) + 1):
        rest = rows + [(weight - units, further)]
        lines.append(whole_worth_of(rest, moved(bundle, kind, -units)))
    return lines, bottom


def next_turn(lines, slope, bottom):
    """The least height at which a steeper line comes up to that of a slope, and the greatest slope of those that do."""
    height, steeper = None, slope
    for units in range(slope + 1, len(lines)):
        there = lowest(lines[slope] - lines[units], bottom * (units - slope))
        if height is None or not less(height, there):
            height, steeper = there, units
    return height, steeper


def apart(one, other):
    """The pieces of what some pieces tell less what others do."""
    heights = {row[0]: True for row in one + other}
    pieces = []
    for row in ascending([(height,) for height in heights]):
        value, slope = value_at(one, row[0])
        less_value, less_slope = value_at(other, row[0])
        if not pieces or pieces[-1][2] != slope - less_slope:
            pieces.append((row[0], minus(value, less_value), slope - less_slope))
    return pieces


def value_at(pieces, height):
    """What pieces tell at a height, and their slope above it."""
    start, value, slope = [row for row in pieces if not less(height, row[0])][-1]
    return plus(value, times(slope, minus(height, start))), slope
