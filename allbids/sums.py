"""What bids take at prices, told for each set of kinds by the weights of the bids that are bound and open to it."""

from allbids.bounds import added, lesser
from allbids.checks import subsets
from allbids.errors import TooMany
from allbids.gains import best_on


def sums_at(rows, prices):
    """A pair of dicts: for each set of kinds with one kind at least, the sums of the weights of all bids that are
    bound to it, and of all that are open to it, at prices."""
    bests = [(weight, best_on(numbers, prices)) for weight, numbers in rows]
    least, most = {}, {}
    for part in parts_of(len(prices)):
        least[part] = sum([weight for weight, kinds in bests if all([kind in part for kind in kinds])])
        most[part] = sum([weight for weight, kinds in bests if any([kind in part for kind in kinds])])
    return least, most


def parts_of(kinds):
    """All sets of kinds with one kind at least."""
    return subsets(list(range(kinds)))[1:]


def units_of(bundle, part):
    """The units of a set of kinds in a bundle, all together."""
    return sum([bundle[kind] for kind in part])


def part_against(least, most, bundle):
    """The first set of kinds of which a bundle has fewer units than least tells, or more than most tells, where
    None is no bound; None if there is no such set."""
    for part in least:
        units = units_of(bundle, part)
        if units < least[part] or most[part] is not None and units > most[part]:
            return part
    return None


def span_behind(least, most, bundle):
    """The least and the greatest number of units of the next kind that fit to those of the kinds ahead of it."""
    low, high = 0, None
    for part in least:
        if part[-1] == len(bundle):
            units = units_of(bundle, part[:-1])
            low = max(low, least[part] - units)
            high = lesser(high, added(most[part], -units))
    return low, high


def bundles_within(least, most, kinds, limit):
    """All bundles that no set of kinds is against, ascending; TooMany if there are more than limit. For sums at
    prices, units of some kinds that fit to each other always go with units of the others."""
    found = [()]
    for _ in range(kinds):
        longer = []
        for bundle in found:
            low, high = span_behind(least, most, bundle)
            if len(longer) + high - low + 1 > limit:
                raise TooMany("bundles", limit)
            longer.extend([bundle + (units,) for units in range(low, high + 1)])
        found = longer
    return tuple(found)


def some_bundle(least, most, kinds, bundle=()):
    """The first bundle that begins like this one and that no set of kinds is against; None if there is none."""
    if len(bundle) == kinds:
        return bundle
    low, high = span_behind(least, most, bundle)
    for units in range(low, high + 1):
        found = some_bundle(least, most, kinds, bundle + (units,))
        if found is not None:
            return found
    return None
