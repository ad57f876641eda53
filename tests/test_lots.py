"""Points [14], [15], [44] and the interface of nochaingains.lots."""

import random
import unittest

from nochaingains.allofthem import all_at_rest
from nochaingains.chains import gaining_chain
from nochaingains.choices import is_sound
from nochaingains.lots import all_by_lots, least_lot
from nochaingains.networks import is_kept, lot_gains
from nochaingains.webs import check_web
from tests import brute
from tests.samples import FREE, KINDS, busy_web, double_line, hub, layered_web, line_web, random_web, two_rests

NOTHING = ("sides", 0, (), 0, ())


def first_lot(web, network):
    """The least gaining lot, by trying all lots."""
    gaining = [lot for lot in brute.lots(web, network) if brute.gains(web, network, lot)]
    return min(gaining, key=lambda lot: (len(lot), lot), default=None)


def rests(web):
    """All networks at rest, by trying all networks and all lots."""
    found = [network for network in brute.all_sets(range(len(web[1]))) if brute.at_rest(web, network)]
    return tuple(sorted(found, key=lambda network: (len(network), network)))


def restless():
    """A web that is right and not sound, in which no network is at rest."""
    houses = (
        ("inn", ("sides", 2, (1, 0, 2), 0, ())), ("farm", ("sides", 0, (), 1, (1,))),
        ("mill", ("table", ((0, 2), (2,)))),
    )
    return (houses, ((2, 0, 5), (1, 0, 5), (2, 0, 5)))


def pairs_only():
    """A web in which the hub buys two or nothing, so that a lot gains and no chain does."""
    return hub(2, 0, ("table", ((0, 1),)))


def knotty_web(seed, contracts):
    """A web of three houses that want contracts together, so that networks at rest are rare."""
    rng = random.Random(seed)
    ends = [rng.choice(((0, 1), (0, 2), (1, 2))) for _ in range(contracts)]
    houses = []
    for house, name in enumerate(("a", "b", "c")):
        own = [c for c in range(contracts) if house in ends[c]]
        rows = {tuple(sorted(rng.sample(own, min(len(own), rng.choice((1, 2, 2)))))) for _ in range(5)} - {()}
        houses.append((name, ("table", tuple(rng.sample(sorted(rows), len(rows))))))
    return (tuple(houses), tuple((seller, buyer, 5) for seller, buyer in ends))


def some_webs(many, contracts):
    for seed in range(many):
        yield random_web(seed, 4, contracts, sound=False)
        yield knotty_web(seed, contracts)
        yield random_web(seed, 4, contracts, (KINDS[seed % 6],), sound=False)
        yield busy_web(seed, 4, contracts)


class LeastLotTest(unittest.TestCase):
    def test_line(self):
        web = line_web()
        self.assertEqual(least_lot(web, ()), (0, 1))
        self.assertIsNone(least_lot(web, (0, 1)))
        # A network that is not kept.
        self.assertEqual(least_lot(web, (0,)), (1,))

    def test_webs_without_contracts(self):
        self.assertIsNone(least_lot(((), ()), ()))
        self.assertIsNone(least_lot(((("a", FREE), ("b", ("table", ()))), ()), ()))

    def test_webs_that_are_not_sound(self):
        web = pairs_only()
        self.assertFalse(is_sound(web))
        self.assertIsNone(gaining_chain(web, ()))
        self.assertEqual(least_lot(web, ()), (0, 1))
        self.assertIsNone(least_lot(web, (0, 1)))
        self.assertEqual(least_lot(web, (0,)), (1,))

    def test_fewer_contracts_go_first(self):
        web = hub(4, 0, ("table", ((0, 1, 2), (1, 3), (2, 3))))
        self.assertEqual(least_lot(web, ()), (1, 3))
        self.assertEqual(least_lot(web, (1, 3)), (0, 2))
        self.assertIsNone(least_lot(web, (0, 1, 2)))

    def test_the_lot_need_not_keep_the_network(self):
        web = hub(2, 0, ("table", ((1,), (0,))))
        self.assertEqual(least_lot(web, (0,)), (1,))
        self.assertIsNone(least_lot(web, (1,)))

    def test_by_trying_all_lots(self):
        found = {"none": 0, "lot": 0, "no chain": 0}
        for web in some_webs(40, 5):
            for network in brute.all_sets(range(5)):
                expected = first_lot(web, network)
                self.assertEqual(least_lot(web, network), expected)
                found["none" if expected is None else "lot"] += 1
                found["no chain"] += expected is not None and gaining_chain(web, network) is None
        self.assertGreater(min(found.values()), 20)

    def test_in_sound_webs_it_is_a_chain(self):
        for seed in range(20):
            for web in (random_web(seed, 4, 6), busy_web(seed, 4, 6)):
                for network in ((), (1, 3, 5), (0, 1, 2, 3, 4, 5)):
                    lot, chain = least_lot(web, network), gaining_chain(web, network)
                    self.assertEqual(lot is None, chain is None)
                    if lot is not None:
                        self.assertEqual(len(lot), len(chain))
                        self.assertLessEqual(lot, tuple(sorted(chain)))

    def test_ten_contracts_outside_of_sixty(self):
        for seed in range(3):
            web = layered_web(seed, 10, 3, 60)
            outside = tuple(range(seed, 60, 6))
            network = tuple(c for c in range(60) if c not in outside)
            lot = least_lot(web, network)
            chain = gaining_chain(web, network)
            self.assertEqual(lot and len(lot), chain and len(chain))
            if lot is not None:
                self.assertTrue(lot_gains(web, network, lot))
            self.assertIsNone(least_lot(web, tuple(range(60))))
        # Only all ten together gain.
        web = hub(30, 30, ("table", (tuple(range(0, 60, 6)),)))
        network = tuple(c for c in range(60) if c % 6)
        self.assertEqual(least_lot(web, network), tuple(range(0, 60, 6)))

    def test_long_chains(self):
        web = double_line(6)
        self.assertEqual(least_lot(web, ()), (0, 2, 4, 6, 8))
        self.assertEqual(least_lot(web, (0, 2, 4, 7)), (8,))


class AllByLotsTest(unittest.TestCase):
    def test_line(self):
        self.assertEqual(all_by_lots(line_web()), ((0, 1),))
        self.assertEqual(all_by_lots(two_rests()), ((0, 3), (1, 2)))

    def test_webs_without_contracts(self):
        self.assertEqual(all_by_lots(((), ())), ((),))
        self.assertEqual(all_by_lots(((("a", FREE), ("b", ("split", ()))), ())), ((),))

    def test_houses_that_want_nothing(self):
        web = ((("a", NOTHING), ("b", NOTHING)), tuple((0, 1, k) for k in range(8)))
        self.assertEqual(all_by_lots(web), ((),))

    def test_no_network_at_rest(self):
        self.assertIsNone(check_web(restless()))
        self.assertFalse(is_sound(restless()))
        self.assertEqual(all_by_lots(restless()), ())
        self.assertEqual(rests(restless()), ())

    def test_a_kept_network_on_which_only_lots_gain(self):
        self.assertTrue(is_kept(pairs_only(), ()))
        self.assertEqual(all_by_lots(pairs_only()), ((0, 1),))

    def test_fewer_contracts_go_first(self):
        farms = (("a", ("sides", 0, (), 1, (1, 0))), ("b", ("sides", 0, (), 1, (2,))))
        web = ((("hub", ("table", ((0,), (1, 2), (1,), (2,)))),) + farms, ((1, 0, 5), (1, 0, 5), (2, 0, 5)))
        self.assertEqual(all_by_lots(web), ((0,), (1, 2)))
        houses = (("hub", ("table", ((0, 3), (1, 2), (1,), (2,)))),) + farms
        web = (houses, ((1, 0, 5), (1, 0, 5), (2, 0, 5), (2, 0, 5)))
        self.assertEqual(all_by_lots(web), rests(web))

    def test_by_trying_all_networks(self):
        many = {"none": 0, "several": 0}
        for web in some_webs(60, 5):
            found = all_by_lots(web)
            self.assertEqual(found, rests(web))
            many["none"] += found == ()
            many["several"] += len(found) > 1
        self.assertGreater(min(many.values()), 2)

    def test_sound_webs(self):
        several = 0
        for seed in range(30):
            for web in (random_web(seed, 4, 6), busy_web(seed, 4, 6), random_web(seed, 5, 6, (KINDS[seed % 6],))):
                self.assertEqual(all_by_lots(web), all_at_rest(web))
                several += len(all_by_lots(web)) > 1
        self.assertGreater(several, 2)

    def test_eight_contracts(self):
        for seed in range(4):
            for web in (random_web(seed, 6, 8), busy_web(seed, 5, 8), random_web(seed, 30, 8)):
                self.assertEqual(all_by_lots(web), all_at_rest(web))
            web = random_web(seed, 4, 8, sound=False)
            self.assertEqual(all_by_lots(web), rests(web))
        web = hub(4, 4, ("sides", 4, (0, 1, 2, 3), 4, (4, 5, 6, 7)))
        self.assertEqual(all_by_lots(web), (tuple(range(8)),))


if __name__ == "__main__":
    unittest.main()
