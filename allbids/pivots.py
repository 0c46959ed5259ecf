"""Greatest sums under limits, found by pivots in whole numbers.

Looked for are factors from 0 on, one for each of some columns of whole numbers, such that at each place of the columns
the factors times the numbers have a sum of at most 1, its limit, and the factors times the worths of the columns have a
sum as great as possible. Each limit has a price from 0 on: the prices times the numbers of a column come to its worth
at least, and all prices together to the greatest sum.
"""

from allbids.ratios import lowest


class Table:
    """Its grid has a line for each limit, and a last one of what the parts still lack of their worths, all over one
    bottom. The parts are the columns and, behind them, the room that each limit leaves; a last number of each line
    tells the limit, or the sum. Each limit tells how great one part is, its base; all other parts are 0."""

    def __init__(self, columns, worths, places):
        self.many = len(columns)
        self.places = places
        self.bottom = 1
        self.bases = [self.many + place for place in range(places)]
        self.grid = [[column[place] for column in columns] + room_line(place, places) for place in range(places)]
        self.grid.append([-worth for worth in worths] + [0] * (places + 1))


def room_line(place, places):
    """The end of a line: the room of its own limit, of no other one, and the limit."""
    return [1 if other == place else 0 for other in range(places)] + [1]


def pivoted(columns, worths, places):
    """The Table of the greatest sum, and None; if the sum grows without end, a Table and a part with which it does."""
    table = Table(columns, worths, places)
    while True:
        # The first part and, of limits that are equally near, that with the first base: so no Table comes twice.
        growing = [part for part in range(table.many + places) if table.grid[-1][part] < 0]
        if not growing:
            return table, None
        place = nearest_limit(table, growing[0])
        if place is None:
            return table, growing[0]
        pivot(table, place, growing[0])


def nearest_limit(table, part):
    """The place of the limit that a part reaches first when it grows; None if it reaches none."""
    found = None
    for place in range(table.places):
        if table.grid[place][part] > 0 and (found is None or is_nearer(table, place, found, part)):
            found = place
    return found


def is_nearer(table, place, other, part):
    """Whether a part that grows reaches the limit at a place ahead of that at another one."""
    one, two = table.grid[place], table.grid[other]
    here, there = one[-1] * two[part], two[-1] * one[part]
    return here < there or here == there and table.bases[place] < table.bases[other]


def pivot(table, place, part):
    """Makes a part the base of a limit."""
    head = table.grid[place]
    top = head[part]
    for at in range(table.places + 1):
        line = table.grid[at]
        if at != place:
            table.grid[at] = [(line[k] * top - line[part] * head[k]) // table.bottom for k in range(len(line))]
    table.bottom = top
    table.bases[place] = part


def factors_of(table):
    """The factors of all columns that are not 0, as ratios by columns."""
    return column_factors(table, [line[-1] for line in table.grid])


def endless_factors(table, part):
    """Factors that may grow together without end, as ratios by columns, if a part does."""
    found = column_factors(table, [-line[part] for line in table.grid])
    if part < table.many:
        found[part] = (1, 1)
    return found


def column_factors(table, tops):
    """The tops of the limits as ratios by the columns that are their bases, those that are 0 left out."""
    pairs = [(table.bases[place], tops[place]) for place in range(table.places)]
    return {part: lowest(top, table.bottom) for part, top in pairs if part < table.many and top != 0}


def limit_prices(table):
    """The prices of all limits, as ratios."""
    return tuple([lowest(top, table.bottom) for top in table.grid[-1][table.many:-1]])


def greatest_sum(table):
    """The greatest sum, as a ratio."""
    return lowest(table.grid[-1][-1], table.bottom)
