"""Planes of a list, and the cells into which they cut a wall, in whole numbers.

Prices have four places here: three kinds, those that the list lacks being wanted by nobody, and
GROUND, whose price is always 0 and which stands for nothing. So each plane is a triple (i, j, c) with
i < j and stands for p_i - p_j = c; those with j = GROUND are told as "at", the others as "as".

On a wall (i, j, c), prices are told by x and y, the prices of both other places less that of j. All
planes that cut the wall are x = k, y = k or y - x = k there; so is what keeps prices above a bound.
"""

GROUND = 3
PLACES = (0, 1, 2, 3)
AXIS_X = 0
AXIS_Y = 1
AXIS_DIFFERENCE = 2

# Scaled numbers are multiples of this one, so that halfway between two of them, and halfway again,
# there is a whole number.
GRAIN = 4


def padded(numbers):
    """A row of whole numbers, one for each kind, with four places."""
    return tuple(numbers) + (0,) * (4 - len(numbers))


def planes_of(rows):
    """All planes of bids, ascending as walls are."""
    found = {}
    for _, numbers in rows:
        for i, j in wanted_pairs(numbers):
            found[(j < GROUND, i, j, numbers[i] - numbers[j])] = True
    return [(i, j, c) for _, i, j, c in sorted(list(found))]


def wanted_pairs(numbers):
    """All pairs of places of which a bid wants the kinds; GROUND counts as wanted."""
    wanted = [k for k in PLACES if k == GROUND or numbers[k] > 0]
    return [(i, j) for i in wanted for j in wanted if i < j]


def beside(plane):
    """Both other places, ascending: those whose prices x and y tell."""
    first, second = [k for k in PLACES if k not in plane[:2]]
    return first, second


def height_over(plane, prices):
    """How far prices are above a plane: 0 on it."""
    return prices[plane[0]] - prices[plane[1]] - plane[2]


def is_plain(planes, plane, prices):
    """Whether prices, all above 0, lie on this plane and on no other one of planes."""
    if height_over(plane, prices) != 0 or min(prices[:GROUND]) <= 0:
        return False
    return all([height_over(other, prices) != 0 for other in planes if other != plane])


def turning_weight(rows, plane, prices):
    """The sum of the weights of all bids that turn on a plane at prices on it."""
    i, j, _ = plane
    first, second = beside(plane)
    total = 0
    for weight, numbers in rows:
        margin = numbers[i] - prices[i]
        if margin == numbers[j] - prices[j]:
            if margin > numbers[first] - prices[first] and margin > numbers[second] - prices[second]:
                total += weight
    return total


def trace(plane, other):
    """What prices keep on a wall if they are on another plane: (axis, k, sign), sign 1 if prices that are
    above the other plane have more than k there, and -1 if they have less; None if it does not cut."""
    first, second = beside(plane)
    fixed = {plane[0]: plane[2], plane[1]: 0}
    u, v, d = other
    if u in fixed and v in fixed:
        return None
    if v in fixed:
        return (AXIS_X if u == first else AXIS_Y, d + fixed[v], 1)
    if u in fixed:
        return (AXIS_X if v == first else AXIS_Y, fixed[u] - d, -1)
    if u == second:
        return (AXIS_DIFFERENCE, d, 1)
    return (AXIS_DIFFERENCE, -d, -1)


def cuts_of(plane, planes):
    """For each axis the list of all numbers at which planes cut a wall."""
    cuts = ([], [], [])
    for other in planes:
        line = trace(plane, other)
        if line is not None:
            cuts[line[0]].append(line[1])
    return cuts


def room_on(plane, lows, limit):
    """For each axis an open span, so that all spans together keep the prices above lows and within a limit
    that is greater than all crossings of planes; None if no prices of the wall are above lows."""
    spans = [[-limit, limit], [-limit, limit], [-2 * limit, 2 * limit]]
    for kind in range(GROUND):
        line = trace(plane, (kind, GROUND, lows[kind]))
        if line is None:
            if plane[2] <= lows[kind]:
                return None
        elif line[2] > 0:
            spans[line[0]][0] = max(spans[line[0]][0], line[1])
        else:
            spans[line[0]][1] = min(spans[line[0]][1], line[1])
    return spans


def pieces_of(span, cuts):
    """The open spans into which cuts part an open span."""
    inside = sorted({cut for cut in cuts if span[0] < cut < span[1]})
    ends = [span[0]] + inside + [span[1]]
    return [(ends[at], ends[at + 1]) for at in range(len(ends) - 1)]


def cells_in(spans, cuts):
    """All cells into which cuts part the room of a wall, each a triple of open spans."""
    found = []
    differences = pieces_of(spans[AXIS_DIFFERENCE], cuts[AXIS_DIFFERENCE])
    for x in pieces_of(spans[AXIS_X], cuts[AXIS_X]):
        for y in pieces_of(spans[AXIS_Y], cuts[AXIS_Y]):
            least, most = y[0] - x[1], y[1] - x[0]
            for z in differences:
                if max(least, z[0]) < min(most, z[1]):
                    found.append((x, y, z))
    return found


def spot_in(cell, cuts):
    """A pair (x, y) in a cell that is on none of the cuts."""
    x_span, y_span, z_span = cell
    low = max(x_span[0], y_span[0] - z_span[1])
    high = min(x_span[1], y_span[1] - z_span[0])
    x = halfway(low, high, cuts[AXIS_X])
    low = max(y_span[0], x + z_span[0])
    high = min(y_span[1], x + z_span[1])
    return x, halfway(low, high, cuts[AXIS_Y] + [x + cut for cut in cuts[AXIS_DIFFERENCE]])


def halfway(low, high, cuts):
    """A number between low and high that is none of the cuts."""
    return (low + min([cut for cut in cuts if low < cut < high], default=high)) // 2


def prices_at(plane, spot):
    """The prices on a wall that x and y tell, with four places."""
    first, second = beside(plane)
    over = {plane[0]: plane[2], plane[1]: 0, first: spot[0], second: spot[1]}
    return tuple([over[k] - over[GROUND] for k in PLACES])


def limit_for(rows, plane, lows):
    """A limit as room_on asks for: crossings are at most four times the greatest number in question away."""
    numbers = [number for _, row in rows for number in row]
    return 8 * max(numbers + list(lows) + [abs(plane[2]), GRAIN])


def cells_on(rows, plane, planes):
    """For each cell of a wall for bids prices in it that are on none of planes."""
    lows = (0, 0, 0)
    spans = room_on(plane, lows, limit_for(rows, plane, lows))
    cuts = cuts_of(plane, planes)
    return [prices_at(plane, spot_in(cell, cuts)) for cell in cells_in(spans, cuts_of(plane, planes_of(rows)))]


def low_spot(rows, lows):
    """A pair (plane, prices): prices above lows, plain on a plane of the bids that has a weight below 0 there;
    None if there are none."""
    planes = planes_of(rows)
    for plane in planes:
        prices = low_spot_on(rows, planes, plane, lows)
        if prices is not None:
            return plane, prices
    return None


def low_spot_on(rows, planes, plane, lows):
    """Prices as low_spot tells, on one plane."""
    if all([weight > 0 for weight, _ in turning(rows, plane)]):
        return None
    for cell, prices in turning_cells(rows, plane, lows):
        if turning_weight(rows, plane, prices) < 0:
            return prices_at(plane, spot_in(cell, cuts_of(plane, planes)))
    return None


def turning(rows, plane):
    """The bids that turn on a plane somewhere."""
    return [row for row in rows if row[1][plane[0]] - row[1][plane[1]] == plane[2]]


def turning_cells(rows, plane, lows):
    """The cells of a plane above lows, parted only where a bid that turns on it begins to, so that no weight
    changes within one: a list of pairs (cell, prices in it)."""
    spans = room_on(plane, lows, limit_for(rows, plane, lows))
    if spans is None:
        return []
    first, second = beside(plane)
    bids = turning(rows, plane)
    cuts = ([row[1][first] - row[1][plane[1]] for row in bids],
            [row[1][second] - row[1][plane[1]] for row in bids], [])
    return [(cell, prices_at(plane, spot_in(cell, cuts))) for cell in cells_in(spans, cuts)]
