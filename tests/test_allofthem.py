"""Points [17], [24] to [26] and the interface of nochaingains.allofthem."""

import unittest

from nochaingains.allofthem import all_at_rest, all_settled
from nochaingains.choices import is_sound, is_steady
from nochaingains.networks import likes
from nochaingains.offers import is_at_rest, judge
from nochaingains.stands import best_for_buyers, best_for_sellers, is_settled, join, meet, network_of
from nochaingains.webs import buys_of, sells_of
from tests import brute
from tests.samples import FREE, KINDS, busy_web, double_line, hub, line_web, random_web, two_rests

NOTHING = ("sides", 0, (), 0, ())


def in_order(networks):
    return tuple(sorted(networks, key=lambda network: (len(network), network)))


def rest_webs(copies):
    """Several webs with two networks at rest beside each other, as one web."""
    houses, contracts = (), ()
    for _ in range(copies):
        more, rows = two_rests()
        first, shift = len(houses), len(contracts)
        for name, (kind, buyroom, buys, sellroom, sells) in more:
            moved = (kind, buyroom, tuple(c + shift for c in buys), sellroom, tuple(c + shift for c in sells))
            houses += ((name * (first + 1), moved),)
        contracts += tuple((seller + first, buyer + first, price) for seller, buyer, price in rows)
    return (houses, contracts)


class SmallWebsTest(unittest.TestCase):
    def test_line(self):
        self.assertEqual(all_at_rest(line_web()), ((0, 1),))
        self.assertEqual(all_settled(line_web()), (((0, 1), (0, 1)),))

    def test_webs_without_contracts(self):
        for web in (((), ()), ((("a", FREE), ("b", ("split", ()))), ())):
            self.assertEqual(all_at_rest(web), ((),))
            self.assertEqual(all_settled(web), (((), ()),))

    def test_houses_that_want_nothing(self):
        web = ((("a", NOTHING), ("b", NOTHING)), ((0, 1, 5), (0, 1, 5)))
        self.assertEqual(all_at_rest(web), ((),))
        self.assertEqual(all_settled(web), (((), (0, 1)), ((0,), (1,)), ((0, 1), ()), ((1,), (0,))))
        half = (web[0][:1] + (("b", FREE),), web[1])
        self.assertEqual(all_settled(half), all_settled(web))
        wants = ("sides", 1, (1, 0), 0, ())
        self.assertEqual(all_settled((web[0][:1] + (("b", wants),), web[1])), (((), (0, 1)),))
        sells = ("sides", 0, (), 1, (1, 0))
        self.assertEqual(all_settled(((("a", sells),) + web[0][1:], web[1])), (((0, 1), ()),))

    def test_two_networks_at_rest(self):
        web = two_rests()
        self.assertEqual(all_at_rest(web), ((0, 3), (1, 2)))
        self.assertEqual(all_settled(web), (((0, 1, 2, 3), (1, 2)), ((0, 3), (0, 1, 2, 3))))

    def test_networks_of_several_sizes(self):
        web = hub(3, 0, ("table", ((0,), (1, 2), (1,), (2,))))
        self.assertTrue(is_sound(web) and not is_steady(web))
        houses, contracts = web
        # Two farms, whose wishes stand against those of the hub.
        farms = (("sides", 0, (), 1, (1, 0)), ("sides", 0, (), 1, (2,)))
        web = ((houses[0], ("a", farms[0]), ("b", farms[1])), ((1, 0, 5), (1, 0, 5), (2, 0, 5)))
        self.assertEqual(all_at_rest(web), ((0,), (1, 2)))
        self.assertEqual(all_at_rest(web), in_order(n for n in brute.all_sets(range(3)) if brute.at_rest(web, n)))

    def test_in_their_order(self):
        for seed in range(20):
            for web in (random_web(seed, 4, 6), busy_web(seed, 4, 6), rest_webs(2)):
                networks, stands = all_at_rest(web), all_settled(web)
                self.assertEqual(networks, in_order(set(networks)))
                self.assertEqual(stands, tuple(sorted(set(stands))))
                for stand in stands:
                    self.assertIsInstance(stand, tuple)
                    for part in stand + networks:
                        self.assertEqual(part, tuple(sorted(set(part))))


class ByTryingAllTest(unittest.TestCase):
    def webs(self, many, contracts):
        for seed in range(many):
            yield random_web(seed, 4, contracts)
            yield busy_web(seed, 4, contracts)
            yield random_web(seed, 4, contracts, (KINDS[seed % 6],))
        yield two_rests()

    def test_all_networks_and_all_lots(self):
        several = 0
        for web in self.webs(36, 5):
            networks = [n for n in brute.all_sets(range(len(web[1]))) if brute.at_rest(web, n)]
            several += len(networks) > 1
            self.assertEqual(all_at_rest(web), in_order(networks))
        self.assertGreater(several, 5)

    def test_all_stands(self):
        for web in self.webs(24, 4):
            stands = [stand for stand in brute.all_stands(web) if brute.next_of(web, stand) == stand]
            self.assertEqual(all_settled(web), tuple(sorted(stands)))

    def test_networks_of_settled_stands(self):
        for web in self.webs(30, 6):
            stands = all_settled(web)
            self.assertEqual(all_at_rest(web), in_order({network_of(stand) for stand in stands}))
            for stand in stands:
                self.assertIs(judge(web, network_of(stand), stand[0]), True)

    def test_greatest_least_joins_and_meets(self):
        for web in list(self.webs(20, 5)) + [rest_webs(2)]:
            stands = all_settled(web)
            top, bottom = best_for_buyers(web), best_for_sellers(web)
            for one in stands:
                self.assertTrue(brute.at_most(one, top) and brute.at_most(bottom, one))
                for other in stands[:20]:
                    self.assertIn(join(web, one, other), stands)
                    self.assertIn(meet(web, one, other), stands)

    def test_what_end_houses_like(self):
        for web in list(self.webs(30, 5)) + [rest_webs(2)]:
            top, bottom = network_of(best_for_buyers(web)), network_of(best_for_sellers(web))
            for network in all_at_rest(web):
                for house in range(len(web[0])):
                    if buys_of(web, house) and not sells_of(web, house):
                        self.assertTrue(likes(web, house, top, network) and likes(web, house, network, bottom))
                    if sells_of(web, house) and not buys_of(web, house):
                        self.assertTrue(likes(web, house, bottom, network) and likes(web, house, network, top))


class TwelveContractsTest(unittest.TestCase):
    def test_networks_beside_each_other(self):
        web = rest_webs(3)
        self.assertEqual(len(web[1]), 12)
        expected = [one + other + third for one in ((0, 3), (1, 2)) for other in ((4, 7), (5, 6))
                    for third in ((8, 11), (9, 10))]
        self.assertEqual(all_at_rest(web), in_order(expected))
        self.assertEqual(len(all_settled(web)), 8)

    def test_nobody_wants_anything(self):
        web = ((("a", NOTHING), ("b", NOTHING)), tuple((0, 1, k) for k in range(12)))
        self.assertEqual(len(all_settled(web)), 4096)
        self.assertEqual(all_at_rest(web), ((),))

    def test_all_kinds(self):
        for seed in range(4):
            for web in (random_web(seed, 7, 12), busy_web(seed, 6, 12)):
                for stand in all_settled(web):
                    self.assertTrue(is_settled(web, stand))
                found = all_at_rest(web)
                self.assertEqual(found, in_order(n for n in brute.all_sets(range(12)) if is_at_rest(web, n)))
        self.assertEqual(all_at_rest(double_line(7)), ((0, 2, 4, 6, 8, 10),))


if __name__ == "__main__":
    unittest.main()
