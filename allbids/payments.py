"""Best dealings of a market, and payments by what others lose."""

from allbids.checks import check_same_kinds, frozen, is_bundle, is_kind
from allbids.errors import BadNumber, Unlike
from allbids.markets import Market, dealt, joined, least_prices, whole_worth
from allbids.ratios import lowest, minus, plus
from allbids.scales import common_bottom, ratios_of, scaled_bids
from allbids.worths import table_by, worth


class Payments:
    """A best dealing, and what each buyer pays with it."""

    def __init__(self, dealing, numbers):
        self.dealing = frozen(dealing)
        self.numbers = frozen(numbers)


def is_best(market, dealing):
    """Whether any value is a best dealing of a market."""
    if not is_dealing(market, dealing):
        return False
    total = (0, 1)
    for bids, bundle in zip(market.buyers, dealing):
        total = plus(total, worth(bids, bundle))
    return total == whole_worth(market)


def whole_without(market, k):
    """The whole worth of the market of all buyers but one."""
    check_number(market, k)
    return worth(bids_without(market, k), market.supply)


def shares_of(market):
    """What is left to each buyer with any best dealing."""
    whole = whole_worth(market)
    return tuple([minus(whole, whole_without(market, k)) for k in range(len(market.buyers))])


def payments_at(market, dealing):
    """What each buyer pays with a best dealing."""
    check_best(market, dealing)
    whole = whole_worth(market)
    return tuple([payment_at(market, k, whole, dealing[k]) for k in range(len(market.buyers))])


def payments(market):
    """The Payments of a market."""
    # Whatever clears a market is a best dealing.
    dealing = dealt(market, least_prices(market))
    return Payments(dealing, payments_at(market, dealing))


def bundles_for(market, k):
    """All bundles that a buyer has in some best dealing, ascending."""
    check_number(market, k)
    numbers, _ = payments_of(market, k)
    return tuple(numbers)


def payment_range(market, k):
    """The least and the greatest payment of a buyer over all best dealings."""
    check_number(market, k)
    numbers, bottom = payments_of(market, k)
    return (lowest(min(numbers.values()), bottom), lowest(max(numbers.values()), bottom))


def left_with(market, k, told, dealing):
    """What is left to a buyer, by its own list, if it tells another one, a buyer, and this dealing is best then."""
    check_number(market, k)
    check_same_kinds(market, told)
    changed = Market(market.buyers[:k] + (told,) + market.buyers[k + 1:], market.supply)
    check_best(changed, dealing)
    payment = payment_at(changed, k, whole_worth(changed), dealing[k])
    return minus(worth(market.buyers[k], dealing[k]), payment)


def check_number(market, k):
    """BadNumber for what is not the number of a buyer."""
    if not is_kind(k, len(market.buyers)):
        raise BadNumber("buyer", k)


def check_best(market, dealing):
    """Unlike for any value that is not a best dealing of a market."""
    if not is_best(market, dealing):
        raise Unlike("dealing")


def is_dealing(market, dealing):
    """Whether any value is a tuple of bundles, one for each buyer, that the supply is enough for."""
    if not isinstance(dealing, tuple) or len(dealing) != len(market.buyers):
        return False
    if not all([isinstance(bundle, tuple) and is_bundle(bundle, market.kinds) for bundle in dealing]):
        return False
    return all([sum([bundle[kind] for bundle in dealing]) <= units for kind, units in enumerate(market.supply)])


def bids_without(market, k):
    """The list of all bids of all buyers but one."""
    return joined(market.kinds, market.buyers[:k] + market.buyers[k + 1:])


def payment_at(market, k, whole, bundle):
    """What a buyer pays for its bundle in a best dealing, which brings this whole worth."""
    return minus(whole_without(market, k), minus(whole, worth(market.buyers[k], bundle)))


def payments_of(market, k):
    """What a buyer pays for each bundle that it has in some best dealing, by these bundles, ascending, in whole
    numbers, and their bottom."""
    own, rest = market.buyers[k], bids_without(market, k)
    bottom = common_bottom(ratios_of(own) + ratios_of(rest))
    first = table_by(scaled_bids(own, bottom), market.supply)
    others = table_by(scaled_bids(rest, bottom), market.supply)
    left = {bundle: others[what_is_left(market.supply, bundle)] for bundle in first}
    most = max([first[bundle] + left[bundle] for bundle in first])
    best = [bundle for bundle in first if first[bundle] + left[bundle] == most]
    return {bundle: others[market.supply] - left[bundle] for bundle in best}, bottom


def what_is_left(supply, bundle):
    """The supply less a bundle."""
    return tuple([units - given for units, given in zip(supply, bundle)])
