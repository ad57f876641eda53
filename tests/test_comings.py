"""Points [5], [27], [28] and the interface of nochaingains.comings."""

import unittest

from nochaingains.allofthem import all_at_rest
from nochaingains.choices import is_steady
from nochaingains.comings import balance, end_buyers, end_sellers, without
from nochaingains.networks import likes
from nochaingains.stands import best_for_buyers, best_for_sellers, network_of
from nochaingains.webs import check_web
from tests import brute
from tests.samples import FREE, KINDS, busy_web, hub, layered_web, line_web, random_web, two_rests

GONE = ("sides", 0, (), 0, ())


def some_webs(many, contracts):
    for seed in range(many):
        yield random_web(seed, 4, contracts)
        yield busy_web(seed, 4, contracts)
        yield random_web(seed, 5, contracts, (KINDS[seed % 6],))


class EndsTest(unittest.TestCase):
    def test_line(self):
        self.assertEqual(end_buyers(line_web()), (2,))
        self.assertEqual(end_sellers(line_web()), (0,))

    def test_houses_without_contracts_are_at_no_end(self):
        for web in (((), ()), ((("a", FREE), ("b", FREE)), ())):
            self.assertEqual(end_buyers(web), ())
            self.assertEqual(end_sellers(web), ())

    def test_several_in_ascending_order(self):
        houses = tuple((name, GONE) for name in "abcdef")
        web = (houses, ((5, 0, 1), (3, 4, 1), (4, 0, 1), (3, 1, 1), (3, 1, 2)))
        self.assertEqual(end_buyers(web), (0, 1))
        self.assertEqual(end_sellers(web), (3, 5))

    def test_what_is_wanted_plays_no_part(self):
        web = hub(1, 1, ("maker", 1, (0,), (1,)))
        self.assertEqual((end_buyers(web), end_sellers(web)), ((2,), (1,)))
        for house in range(3):
            left = without(web, house)
            self.assertEqual((end_buyers(left), end_sellers(left)), ((2,), (1,)))

    def test_by_the_words_of_the_document(self):
        for web in some_webs(20, 4):
            sides = [{brute.side_of(web, h, c) for c in brute.own(web, h)} for h in range(len(web[0]))]
            self.assertEqual(end_buyers(web), tuple(h for h, found in enumerate(sides) if found == {"buy"}))
            self.assertEqual(end_sellers(web), tuple(h for h, found in enumerate(sides) if found == {"sell"}))


class BalanceTest(unittest.TestCase):
    def test_sells_less_buys(self):
        web = hub(3, 2, FREE)
        for network, found in (((), 0), ((0, 1, 2, 3, 4), -1), ((3, 4), 2), ((1, 3), 0), ((0, 1, 2), -3)):
            self.assertEqual(balance(web, 0, network), found)
        self.assertEqual(balance(web, 1, (0, 1, 3)), 2)
        self.assertEqual(balance(web, 2, (0, 3, 4)), -2)

    def test_the_same_in_all_networks_at_rest(self):
        several = 0
        for web in some_webs(40, 6):
            networks = all_at_rest(web)
            several += len(networks) > 1 and is_steady(web)
            for house in range(len(web[0])):
                found = {balance(web, house, network) for network in networks}
                if is_steady(web):
                    self.assertEqual(len(found), 1)
        self.assertGreater(several, 5)

    def test_webs_that_are_not_steady(self):
        choice = ("table", ((0,), (1, 2), (1,), (2,)))
        farms = (("a", ("sides", 0, (), 1, (1, 0))), ("b", ("sides", 0, (), 1, (2,))))
        web = ((("hub", choice),) + farms, ((1, 0, 5), (1, 0, 5), (2, 0, 5)))
        self.assertFalse(is_steady(web))
        self.assertEqual([balance(web, 0, network) for network in all_at_rest(web)], [-1, -2])


class WithoutTest(unittest.TestCase):
    def test_any_house(self):
        houses, contracts = line_web()
        self.assertEqual(without(line_web(), 0), ((("farm", GONE),) + houses[1:], contracts))
        self.assertEqual(without(line_web(), 1), ((houses[0], ("mill", GONE), houses[2]), contracts))
        self.assertEqual(without(line_web(), 2), (houses[:2] + (("shop", GONE),), contracts))
        alone = ((("a", ("split", ())),), ())
        self.assertEqual(without(alone, 0), ((("a", GONE),), ()))

    def test_large_webs(self):
        web = layered_web(1, 10, 3, 60)
        for house in range(30):
            left = without(web, house)
            self.assertIsNone(check_web(left))
            self.assertEqual([h for h in range(30) if left[0][h] != web[0][h]],
                             [house] if web[0][house][1] != GONE else [])
            self.assertEqual(set(network_of(best_for_buyers(left))) & set(brute.own(web, house)), set())

    def test_a_seller_or_a_buyer_leaves(self):
        changed = 0
        for web in list(some_webs(30, 5)) + [two_rests()]:
            buyers, sellers = end_buyers(web), end_sellers(web)
            for best in (best_for_buyers, best_for_sellers):
                before = network_of(best(web))
                for gone in buyers + sellers:
                    after = network_of(best(without(web, gone)))
                    changed += before != after
                    better, worse = (before, after) if gone in sellers else (after, before)
                    for house in buyers:
                        self.assertTrue(house == gone or likes(web, house, better, worse))
                    for house in sellers:
                        self.assertTrue(house == gone or likes(web, house, worse, better))
        self.assertGreater(changed, 50)


if __name__ == "__main__":
    unittest.main()
