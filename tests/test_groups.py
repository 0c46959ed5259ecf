"""Points 71 and 72: kinds that stand for one another."""

import random
import unittest

from allbids.bids import Bids
from allbids.errors import BadNumber, NoBuyer
from allbids.gains import gain
from allbids.groups import Reaction, groups, parted, reaction
from allbids.ratios import plus
from allbids.walls import cells, walls, weight_at

from oracles import BARRED, MENDED, planes_by, random_bids, random_buyer

NO_KINDS = [-1, 2, 3, True, False, None, "0", (0, 1), 1.0, [0]]


def groups_by(bids):
    """The words of point 71, by the weights of all cells."""
    parts = [{kind} for kind in range(bids.kinds)]
    for wall in walls(bids):
        if wall[0] == "as" and any(weight for _, weight in cells(bids, wall)):
            near = [part for part in parts if part & set(wall[1:3])]
            parts = [part for part in parts if part not in near] + [set().union(*near)]
    return tuple(sorted(tuple(sorted(part)) for part in parts))


class Groups(unittest.TestCase):
    def test_no_bids_and_one_kind(self):
        self.assertEqual(groups(Bids(3, [])), ((0,), (1,), (2,)))
        self.assertEqual(parted(Bids(3, [])), (Bids(1, []), Bids(1, []), Bids(1, [])))
        one = Bids(1, [(1, (3,)), (-2, (5,))])
        self.assertEqual(groups(one), ((0,),))
        self.assertEqual(parted(one), (one,))

    def test_bids_that_want_one_kind_alone(self):
        bids = Bids(2, [(1, (3, 0)), (2, (0, (1, 2))), (-1, (4, 0))])
        self.assertEqual(groups(bids), ((0,), (1,)))
        self.assertEqual(parted(bids), (Bids(1, [(1, (3,)), (-1, (4,))]), Bids(1, [(2, ((1, 2),))])))

    def test_no_wall_that_counts(self):
        """Bids that take one another away tell no wall."""
        bids = Bids(3, [(1, (3, 4, 0)), (2, (1, 0, 0)), (-1, (3, 4, 0)), (1, (0, 2, 2)), (0, (1, 1, 1))])
        self.assertEqual(groups(bids), ((0,), (1, 2)))
        self.assertEqual(parted(bids), (Bids(1, [(2, (1,))]), Bids(2, [(1, (2, 2))])))

    def test_neighbors(self):
        self.assertEqual(groups(Bids(3, [(1, (1, 1, 0)), (1, (0, 2, 5))])), ((0, 1, 2),))
        self.assertEqual(groups(Bids(3, [(1, (1, 0, 3)), (1, (0, 2, 5))])), ((0, 1, 2),))
        self.assertEqual(groups(Bids(3, [(1, (1, 0, 3)), (1, (7, 2, 0))])), ((0, 1, 2),))
        self.assertEqual(groups(Bids(3, [(1, (1, 0, 3)), (1, (0, 2, 0))])), ((0, 2), (1,)))
        self.assertEqual(groups(Bids(3, [(1, (1, 2, 0)), (1, (0, 0, 2))])), ((0, 1), (2,)))
        bids = Bids(3, [(1, (1, 0, 3)), (1, (0, 2, 0)), (-1, (6, 0, 0)), (2, (0, 0, (1, 3)))])
        self.assertEqual(parted(bids), (Bids(2, [(1, (1, 3)), (-1, (6, 0)), (2, (0, (1, 3)))]), Bids(1, [(1, (2,))])))

    def test_by_all_cells_and_gains(self):
        rng = random.Random(71)
        for _ in range(150):
            kinds = rng.choice([1, 2, 3, 3, 3])
            bids = random_bids(rng, kinds, rng.randint(0, 2), 3) + random_bids(rng, kinds, 1, 3)
            found = groups(bids)
            self.assertEqual(found, groups_by(bids))
            self.assertEqual(sorted(sum(found, ())), list(range(kinds)))
            lists = parted(bids)
            self.assertEqual([part.kinds for part in lists], [len(part) for part in found])
            for _ in range(5):
                prices = [(rng.randint(0, 8), 2) for _ in range(kinds)]
                total = 0
                for part, one in zip(found, lists):
                    total = plus(total, gain(one, [prices[kind] for kind in part]))
                self.assertEqual(gain(bids, prices), plus(total, 0))


class Reactions(unittest.TestCase):
    def check(self, bids, i, j, units):
        told = reaction(bids, i, j)
        self.assertIs(told.__class__, Reaction)
        self.assertEqual(told.units, units)
        self.assertIn(told.wall, planes_by(bids))
        self.assertEqual(told.wall[:3], ("as", min(i, j), max(i, j)))
        self.assertIsInstance(told.place, tuple)
        self.assertEqual(weight_at(bids, told.wall, told.place), units)

    def test_none(self):
        self.assertIsNone(reaction(Bids(2, []), 0, 1))
        self.assertIsNone(reaction(Bids(2, [(1, (3, 0)), (2, (0, 3))]), 1, 0))
        bids = Bids(3, [(1, (1, 1, 0)), (1, (0, 2, 5))])
        self.assertIsNone(reaction(bids, 0, 2))
        self.check(bids, 0, 1, 1)
        self.check(bids, 2, 1, 1)

    def test_both_orders(self):
        bids = Bids(2, [(3, (5, (7, 2)))])
        self.check(bids, 0, 1, 3)
        self.check(bids, 1, 0, 3)
        self.assertEqual(reaction(bids, 1, 0).wall, ("as", 0, 1, (3, 2)))

    def test_several_weights(self):
        """On one wall the units of several bids count where both prices are low; on others fewer do."""
        self.check(Bids(2, [(3, (5, 4)), (2, (3, 2)), (4, (9, 9))]), 0, 1, 5)
        self.check(Bids(2, [(3, (5, 4)), (2, (3, 2)), (6, (9, 9))]), 0, 1, 6)
        self.check(Bids(3, [(3, (5, 4, 1)), (2, (3, 2, 8)), (4, (6, 6, 0))]), 1, 0, 5)
        self.check(MENDED, 0, 1, 1)
        # The wall has the weight 1 above, and 1 - 1 + 1 below.
        self.check(Bids(2, [(1, (0, 3)), (1, (2, 0)), (-1, (2, 3)), (1, (3, 4))]), 1, 0, 1)

    def test_by_all_cells(self):
        rng = random.Random(72)
        for _ in range(100):
            kinds = rng.choice([2, 3, 3])
            bids = random_buyer(rng, kinds)
            for i in range(kinds):
                for j in range(kinds):
                    named = [wall for wall in walls(bids) if wall[0] == "as" and set(wall[1:3]) == {i, j}]
                    if i != j and named:
                        self.check(bids, i, j, max(weight for wall in named for _, weight in cells(bids, wall)))
                    elif i != j:
                        self.assertIsNone(reaction(bids, i, j))

    def test_many_bids(self):
        rng = random.Random(73)
        bids = Bids(3, [(rng.randint(1, 200), [(rng.randint(0, 999999), 1000) for _ in range(3)]) for _ in range(11)]
                    + [(200, (1, 2, 3))])
        told = reaction(bids, 2, 0)
        self.assertEqual(weight_at(bids, told.wall, told.place), told.units)
        self.assertEqual(told.units, 200)

    def test_errors(self):
        bids = Bids(2, [(1, (3, 4))])
        for wrong in NO_KINDS:
            for call in (lambda: reaction(bids, wrong, wrong), lambda: reaction(bids, 0, wrong)):
                with self.assertRaises(BadNumber) as caught:
                    call()
                self.assertEqual(caught.exception.what, "kind")
                self.assertIs(caught.exception.number, wrong)
            with self.assertRaises(NoBuyer):
                reaction(BARRED, wrong, wrong)
        with self.assertRaises(BadNumber) as caught:
            reaction(bids, 1, 1)
        self.assertEqual((caught.exception.what, caught.exception.number), ("kind", 1))
        with self.assertRaises(BadNumber) as caught:
            reaction(bids, 9, 8)
        self.assertEqual(caught.exception.number, 9)
        with self.assertRaises(BadNumber):
            reaction(Bids(1, [(1, (3,))]), 0, 0)
        with self.assertRaises(NoBuyer):
            reaction(BARRED, 0, 0)


if __name__ == "__main__":
    unittest.main()
