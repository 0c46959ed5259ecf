"""Bounds on prices and on their differences, in whole numbers.

Bounds are a square of rows, one for each kind and a last one for a price that is always 0: the item v of
the row u is the most that the price u may be above the price v, or None.
"""


def no_bounds(kinds):
    """Bounds that bound nothing."""
    return [[0 if u == v else None for v in range(kinds + 1)] for u in range(kinds + 1)]


def lesser(one, other):
    """The lesser of two numbers, None being greater than all."""
    if one is None:
        return other
    if other is None:
        return one
    return min(one, other)


def added(one, other):
    """The sum of two numbers, None if one of them is None."""
    if one is None or other is None:
        return None
    return one + other


def tight(bounds):
    """The same bounds, each as low as all others make it; None if no prices keep them."""
    rows = [list(row) for row in bounds]
    places = range(len(rows))
    for middle in places:
        for u in places:
            for v in places:
                rows[u][v] = lesser(rows[u][v], added(rows[u][middle], rows[middle][v]))
    if any([rows[u][u] < 0 for u in places]):
        return None
    return rows


def all_prices(kinds):
    """Tight bounds of all prices from 0 on."""
    bounds = no_bounds(kinds)
    for kind in range(kinds):
        bounds[kinds][kind] = 0
    return tight(bounds)


def corners_of(bounds, rows=()):
    """All corners of the set that tight bounds tell, and of the pieces into which the planes of bids part it,
    a list of tuples of prices. A price at an end of its range, or on a plane, makes a face, and the ranges of all
    others within this face follow from it and the bounds."""
    zero = len(bounds) - 1
    steps = steps_of(rows, zero)
    parts = [(None,) * zero + (0,)]
    for _ in range(zero):
        found = {}
        for part in parts:
            for kind in [k for k in range(zero) if part[k] is None]:
                for price in ends_of(bounds, part, kind) + stops_of(bounds, steps, part, kind):
                    found[part[:kind] + (price,) + part[kind + 1:]] = True
        parts = list(found)
    return [part[:zero] for part in parts]


def steps_of(rows, zero):
    """For each kind and each other place the rows (change, limit) of all planes of bids: on them the price of the
    kind is that of the place and the change, and not above the limit, as no bid takes a kind above its number."""
    limits = {}
    for _, numbers in rows:
        for kind in [k for k in range(zero) if numbers[k] > 0]:
            for place in range(zero + 1):
                if place == zero or place != kind and numbers[place] > 0:
                    key = (kind, place, numbers[kind] - (0 if place == zero else numbers[place]))
                    limits[key] = max(limits.get(key, 0), numbers[kind])
    steps = {(kind, place): [] for kind in range(zero) for place in range(zero + 1)}
    for kind, place, change in limits:
        steps[(kind, place)].append((change, limits[(kind, place, change)]))
    return steps


def stops_of(bounds, steps, part, kind):
    """All prices of a kind within its range that planes tell if some prices are fixed."""
    ends = ends_of(bounds, part, kind)
    found = []
    for place in [k for k in range(len(part)) if part[k] is not None]:
        for change, limit in steps[(kind, place)]:
            price = part[place] + change
            if ends[0] < price <= limit and (len(ends) == 1 or price < ends[1]):
                found.append(price)
    return found


def ends_of(bounds, part, kind):
    """The least and, if there is one, the greatest price of a kind if some prices are fixed, those that are
    not None."""
    fixed = [k for k in range(len(part)) if part[k] is not None]
    low = max([part[k] - bounds[k][kind] for k in fixed if bounds[k][kind] is not None])
    high = None
    for k in fixed:
        high = lesser(high, added(part[k], bounds[kind][k]))
    if high is None:
        return [low]
    return [low, high]
