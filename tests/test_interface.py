"""The interface as a whole: names, arguments and homes; what is told, and facts that several modules share."""

import importlib
import inspect
import random
import unittest

from allbids.bids import Bids
from allbids.desk import Desk
from allbids.demand import demand_map
from allbids.gains import gain, least_of, most_of
from allbids.groups import Reaction, groups, parted
from allbids.heights import price_heights
from allbids.likeness import never_below
from allbids.markets import Market, clearing, dealt, least_prices, whole_worth
from allbids.payments import Payments, is_best, payment_range, payments
from allbids.pricemaps import price_map, supplies_at
from allbids.ratios import plus, ratio_text
from allbids.regions import Region
from allbids.revenue import Revenue, best_revenue, best_within
from allbids.supplies import free_from, line_steps, never_dearer, price_steps, same_prices
from allbids.worths import worth

from oracles import MENDED, box_by, cost, fraction, fractions, moved_by, random_buyer

FUNCTIONS = {
    "ratios": """is_ratio(value) told(value,what) plus(one,other) minus(one,other) times(one,other) less(one,other)
        ratio_text(value) ratio_of(text)""",
    "bids": "Bids(kinds,rows) bids_text(bids) bids_of(kinds,text) wants(bids)",
    "gains": """gain(bids,prices) best(numbers,prices) taken(bids,prices) slope(bids,prices,way)
        most_of(bids,prices,kinds) least_of(bids,prices,kinds) bends(bids,low,high) convex_at(bids,low,middle,high)""",
    "walls": """walls(bids) weight_at(bids,wall,prices) cells(bids,wall) is_buyer(bids) barrier(bids)
        barrier_above(bids,prices) bent_prices(bids) Barrier(wall,place,weight)""",
    "regions": "Region(lows,highs,gaps)",
    "demand": """demanded(bids,prices,bundle) against(bids,prices,bundle) demand(bids,prices) region_of(bids,bundle)
        demand_map(bids)""",
    "worths": """worth(bids,bundle) worth_prices(bids,bundle) Worths(caps,numbers) table_of(bids,caps) falls(worths)
        exchange(worths) list_of(worths) Breach(one,other,kind)""",
    "likeness": """alike(one,other) never_below(one,other) takes_no_less(one,other) greatest_gap(one,other)
        worths_below(one,other) Less(prices,kind) Gap(gap,prices)""",
    "inregions": """alike_in(one,other,region) never_below_in(one,other,region) taken_in(bids,region)
        units_in(bids,region,kinds)""",
    "mixing": """buyer_range(one,other) mended(bids,helpers) is_range(one,other,told) is_mending(bids,helpers,told)
        Reason(wall,place,numbers) Range(low,high,below,above) NoRange(reasons) Mending(number,weights,grounds)
        NoMending(grounds)""",
    "making": """taxed(bids,taxes) as_one(bids,i,j) at_price(bids,kind,price) onto(bids,kinds) capped(bids,many)
        capped_kind(bids,kind,many)""",
    "markets": """Market(buyers,supply) least_prices(market) clearing(market) whole_worth(market) dealt(market,prices)
        clears(market,prices,bundles)""",
    "regrets": """regret(bids,prices,bundle) corners(region) worst_regret(bids,bundle,region) least_worst(bids,region)
        Worst(number,prices) Choice(number,bundles)""",
    "groups": "groups(bids) parted(bids) reaction(bids,i,j) Reaction(units,wall,place)",
    "supplies": """price_steps(bids,kind,supply,most) line_steps(bids,supply,way) matters(bids,more,caps)
        never_dearer(one,other) same_prices(one,other) free_from(bids)""",
    "heights": "worth_heights(bids,bid,kind,bundle) price_heights(bids,bid,kind,supply,other)",
    "pricemaps": "price_map(bids) supplies_at(bids,prices)",
    "payments": """is_best(market,dealing) whole_without(market,k) shares_of(market) payments_at(market,dealing)
        payments(market) bundles_for(market,k) payment_range(market,k) left_with(market,k,told,dealing)
        Payments(dealing,numbers)""",
    "revenue": """gets(bids,costs,prices) best_revenue(bids,costs) best_within(bids,costs,supply)
        Revenue(number,prices,bundle)""",
    "desk": "Desk(kinds,text)",
}
METHODS = {
    ("regions", "Region"): "has(prices) common(other) within(other)",
    ("worths", "Worths"): "at(bundle)",
    ("desk", "Desk"): """put(text) drop(name) rename(name,new) keep(promise) release(promise) attempt(action)
        trial(action) undo() redo() lines() names() promises() get(name) kept(promise) broken() ask(question)""",
}


def split(call):
    name, _, rest = call.partition("(")
    return name, [word for word in rest[:-1].split(",") if word]


class Interface(unittest.TestCase):
    def test_functions_and_classes(self):
        for module, calls in FUNCTIONS.items():
            home = importlib.import_module("allbids." + module)
            for call in calls.split():
                name, words = split(call)
                value = getattr(home, name)
                self.assertEqual(value.__module__, "allbids." + module)
                self.assertEqual(list(inspect.signature(value).parameters), words, call)

    def test_methods(self):
        for (module, name), calls in METHODS.items():
            kind = getattr(importlib.import_module("allbids." + module), name)
            for call in calls.split():
                method, words = split(call)
                self.assertIn(method, vars(kind))
                self.assertEqual(list(inspect.signature(getattr(kind, method)).parameters), ["self"] + words, call)
        self.assertEqual(inspect.signature(Desk).parameters["text"].default, "")

    def test_objects_copy_lists(self):
        wall, place = ["as", 0, 1, [1, 2]], [[3, 2], [1, 1]]
        told = Reaction(3, wall, place)
        self.assertEqual((told.units, told.wall, told.place), (3, ("as", 0, 1, (1, 2)), ((3, 2), (1, 1))))
        told = Payments([[1, 0], [0, 1]], [[1, 2], (0, 1)])
        self.assertEqual((told.dealing, told.numbers), (((1, 0), (0, 1)), ((1, 2), (0, 1))))
        told = Revenue([3, 2], place, [1, 0])
        self.assertEqual((told.number, told.prices, told.bundle), ((3, 2), ((3, 2), (1, 1)), (1, 0)))
        for one in (told, Payments((), ()), Desk(1)):
            self.assertNotEqual(one, Revenue((3, 2), ((3, 2), (1, 1)), (1, 0)))


class Facts(unittest.TestCase):
    def some(self, seed, many):
        rng = random.Random(seed)
        for _ in range(many):
            kinds = rng.choice([1, 2, 2, 3])
            yield rng, kinds, random_buyer(rng, kinds, 4), random_buyer(rng, kinds, 4)

    def test_markets_and_sums_of_lists(self):
        """Point 73."""
        for rng, kinds, one, other in self.some(73, 40):
            supply = tuple(rng.randint(0, 3) for _ in range(kinds))
            both, sole = Market([one, other], supply), Market([one + other], supply)
            self.assertEqual(clearing(both), clearing(sole))
            self.assertEqual(whole_worth(both), worth(one + other, supply))
            self.assertEqual(line_steps(one + other, supply, (0,) * kinds), ((0, least_prices(both)),))
            for kind in range(kinds):
                more = least_prices(Market([one], moved_by(supply, kind, 1)))
                self.assertTrue(all(a <= b for a, b in zip(fractions(more),
                                                           fractions(least_prices(Market([one], supply))))))
            self.assertIsNone(never_dearer(one, one + other))
            self.assertEqual(same_prices(one, other) is None, one == other)

    def test_price_maps(self):
        """Point 81."""
        for rng, kinds, one, _ in self.some(81, 30):
            rows = price_map(one)
            for prices, bounds in rows:
                for part, low, high in bounds:
                    self.assertTrue(low >= least_of(one, prices, part))
                    if high is not None:
                        self.assertTrue(low <= high <= most_of(one, prices, part) - 1)
            self.assertEqual(rows[0][0], ((0, 1),) * kinds)
            for kind in range(kinds):
                highs = [high for prices, bounds in rows if prices[kind] != (0, 1)
                         for part, _, high in bounds if part == (kind,)]
                self.assertEqual(max([high + 1 for high in highs], default=0), free_from(one)[kind])
            for supply in rng.sample(box_by((2,) * kinds), 3):
                prices = least_prices(Market([one], supply))
                self.assertIsNotNone(supplies_at(one, prices))
                for kind in range(kinds):
                    steps = price_steps(one, kind, supply, 5)
                    self.assertEqual([price for n, price in steps if n <= supply[kind]][-1], prices[kind])

    def test_payments(self):
        """Point 84: at most what the bundle costs at any clearing prices."""
        for rng, kinds, one, other in self.some(84, 40):
            market = Market([one, other, MENDED if kinds == 2 else one], [rng.randint(0, 2) for _ in range(kinds)])
            least = least_prices(market)
            dealing = dealt(market, least)
            self.assertTrue(is_best(market, dealing))
            told = payments(market)
            for k, bundle in enumerate(told.dealing):
                low, high = fractions(payment_range(market, k))
                self.assertTrue(0 <= low <= fraction(told.numbers[k]) <= high)
                self.assertTrue(fraction(told.numbers[k]) <= cost(bundle, fractions(least)))

    def test_groups(self):
        """Point 71, by worths."""
        for rng, kinds, one, _ in self.some(71, 40):
            supply = tuple(rng.randint(0, 3) for _ in range(kinds))
            total = (0, 1)
            for part, bids in zip(groups(one), parted(one)):
                total = plus(total, worth(bids, [supply[kind] for kind in part]))
            self.assertEqual(total, worth(one, supply))

    def test_heights_and_revenue(self):
        """A bid that is 0 for all other kinds matters by its height alone; a supply of all that is wanted bars
        nothing."""
        for rng, kinds, one, _ in self.some(89, 40):
            supply = tuple(rng.randint(0, 2) for _ in range(kinds))
            pieces = price_heights(one, (1, (0,) * kinds), kinds - 1, supply, kinds - 1)
            self.assertEqual(pieces[0][1], least_prices(Market([one], supply))[-1])
            self.assertTrue(all(slope in (0, 1) for _, _, slope in pieces))
            costs = [rng.randint(0, 2) for _ in range(kinds)]
            self.assertEqual(best_revenue(one, costs).number, best_within(one, costs, free_from(one)).number)
            self.assertEqual(best_within(one, costs, (0,) * kinds).number, (0, 1))

    def test_regions(self):
        """The prices that clear a market of one buyer are the region of the supply, if this is taken."""
        for _, _, one, _ in self.some(64, 15):
            for bundle, region in demand_map(one):
                self.assertIsInstance(region, Region)
                self.assertEqual(clearing(Market([one], bundle)), region)


class Texts(unittest.TestCase):
    def test_desk_tells_what_the_functions_tell(self):
        desk = Desk(2, "list A\n1 x 5 4\nlist B\n1 x 3 3\n")
        one, other = Bids(2, [(1, (5, 4))]), Bids(2, [(1, (3, 3))])
        self.assertEqual((desk.get("A"), desk.get("B")), (one, other))
        least = least_prices(Market([one, other], (1, 0)))
        self.assertEqual(desk.ask("least 1,0 for A B"), ",".join(ratio_text(price) for price in least))
        self.assertEqual(desk.ask("A wants 2,1"), ratio_text(worth(one, (2, 1))))
        self.assertEqual(desk.ask("B at 1/2,2"), ratio_text(gain(other, ((1, 2), 2))))
        self.assertEqual(desk.kept("A never below B"), (never_below(one, other) is None, never_below(one, other)))
        self.assertEqual(desk.kept("B never below A"), (False, never_below(other, one)))


if __name__ == "__main__":
    unittest.main()
