"""All rows of prices that are the least ones at some supply, with all supplies at which they are."""

from allbids.checks import told_row
from allbids.gains import on_grid
from allbids.leasts import prices_in
from allbids.making import most_units
from allbids.scales import ascending, told_tops
from allbids.sums import part_against, parts_of, sums_at, units_of
from allbids.worths import box, check_buyer, whole_bids


def price_map(bids):
    """All rows of prices that are met, ascending, each with its bounds."""
    check_buyer(bids)
    rows, bottom = whole_bids(bids)
    found = prices_in(rows, most_units(bids))
    supplies = {}
    for supply in found:
        supplies.setdefault(told_tops(found[supply], bottom), []).append(supply)
    return tuple([(prices, bounds_by(supplies[prices], prices)) for prices in ascending(list(supplies))])


def supplies_at(bids, prices):
    """The bounds of a row of prices; None if it is not met; BadRow for what are no prices."""
    check_buyer(bids)
    rows, at, _ = on_grid(bids, prices)
    least, most = sums_at(rows, at)
    limits = {part: most[part] - 1 if costs(at, part) else None for part in most}
    supplies = [supply for supply in box(most_units(bids)) if part_against(least, limits, supply) is None]
    if not supplies:
        return None
    return bounds_by(supplies, told_row(prices))


def bounds_by(supplies, prices):
    """The bounds of all supplies with these least prices, by those of them that have no unit more of any kind than
    ever costs anything: further units of kinds that cost nothing change no price, and there are none of others."""
    bounds = []
    for part in sorted(parts_of(len(prices))):
        units = [units_of(supply, part) for supply in supplies]
        high = max(units) if costs([price[0] for price in prices], part) else None
        bounds.append((part, min(units), high))
    return tuple(bounds)


def costs(prices, part):
    """Whether all kinds of a set have prices above 0."""
    return min([prices[kind] for kind in part]) > 0
