"""Points [47], [48] and the interface of nochaingains.ladders."""

import copy
import random
import unittest

from nochaingains.allofthem import all_at_rest
from nochaingains.choices import is_sound, is_steady
from nochaingains.ladders import web_of_ladder
from nochaingains.offers import is_at_rest
from nochaingains.stands import best_for_buyers, best_for_sellers, network_of
from nochaingains.texts import read_web, write_web
from nochaingains.webs import check_web
from tests.samples import name_of

HUGE = 10 ** 200


def by_the_words(ladder):
    """The web of a ladder, put together once more from point [47]."""
    houses, links = ladder
    contracts = []
    for seller, buyer, low, high in links:
        price = low
        while price <= high:
            contracts.append((seller, buyer, price))
            price += 1
    found = []
    for number, (name, (kind, units, limit)) in enumerate(houses):
        buys = [c for c, row in enumerate(contracts) if row[1] == number]
        sells = [c for c, row in enumerate(contracts) if row[0] == number]
        if kind == "seller":
            wished = [c for c in sells if contracts[c][2] >= limit]
            wished.sort(key=lambda c: contracts[c][2], reverse=True)
            choice = ("sides", 0, (), units, tuple(wished))
        elif kind == "buyer":
            wished = [c for c in buys if contracts[c][2] <= limit]
            wished.sort(key=lambda c: contracts[c][2])
            choice = ("sides", units, tuple(wished), 0, ())
        else:
            choice = ("trader", units, limit, tuple(buys), tuple(sells))
        found.append((name, choice))
    return (tuple(found), tuple(contracts))


def random_ladder(seed, houses=5, links=4, steps=3):
    rng = random.Random(seed)
    kinds = [rng.choice(("seller", "trader", "trader", "buyer")) for _ in range(houses)]
    kinds[:3] = ("seller", "trader", "buyer")
    order = rng.sample(range(houses), houses)
    named = [None] * houses
    for place, house in enumerate(order):
        named[house] = (name_of(house), (kinds[place], rng.randint(0, 3), rng.randint(-2, 6)))
    rows = []
    while len(rows) < links:
        one, other = rng.sample(range(houses), 2)
        traders = kinds[one] == kinds[other] == "trader"
        if kinds[one] != "buyer" and kinds[other] != "seller" and (one < other or not traders):
            low = rng.randint(-2, 5)
            rows.append((order[one], order[other], low, low + rng.randint(0, steps - 1)))
    return (tuple(named), tuple(rows))


class ByHandTest(unittest.TestCase):
    def test_all_kinds(self):
        houses = (("farm", ("seller", 2, 4)), ("mill", ("trader", 3, 1)), ("shop", ("buyer", 1, 9)))
        ladder = (houses, ((0, 1, 3, 5), (1, 2, 8, 10), (0, 2, 9, 9)))
        self.assertEqual(web_of_ladder(ladder), (
            (
                ("farm", ("sides", 0, (), 2, (6, 2, 1))),
                ("mill", ("trader", 3, 1, (0, 1, 2), (3, 4, 5))),
                ("shop", ("sides", 1, (3, 4, 6), 0, ())),
            ),
            ((0, 1, 3), (0, 1, 4), (0, 1, 5), (1, 2, 8), (1, 2, 9), (1, 2, 10), (0, 2, 9)),
        ))

    def test_without_links(self):
        self.assertEqual(web_of_ladder(((), ())), ((), ()))
        houses = (("a", ("seller", 2, 4)), ("b", ("trader", 0, -3)), ("c", ("buyer", 7, 9)))
        self.assertEqual(web_of_ladder((houses, ())), ((
            ("a", ("sides", 0, (), 2, ())), ("b", ("trader", 0, -3, (), ())), ("c", ("sides", 7, (), 0, ())),
        ), ()))

    def test_units_of_nothing(self):
        houses = (("a", ("seller", 0, 0)), ("b", ("buyer", 0, 9)))
        web = web_of_ladder((houses, ((0, 1, 4, 5),)))
        self.assertEqual(web, (
            (("a", ("sides", 0, (), 0, (1, 0))), ("b", ("sides", 0, (0, 1), 0, ()))), ((0, 1, 4), (0, 1, 5)),
        ))
        self.assertEqual(all_at_rest(web), ((),))

    def test_several_links_with_equal_prices(self):
        houses = (("a", ("buyer", 1, 6)), ("b", ("seller", 1, 5)))
        web = web_of_ladder((houses, ((1, 0, 5, 7), (1, 0, 4, 6), (1, 0, 5, 5))))
        self.assertEqual(web[1], tuple((1, 0, price) for price in (5, 6, 7, 4, 5, 6, 5)))
        self.assertEqual(web[0][0][1], ("sides", 1, (3, 0, 4, 6, 1, 5), 0, ()))
        self.assertEqual(web[0][1][1], ("sides", 0, (), 1, (2, 1, 5, 0, 4, 6)))

    def test_prices_below_nothing_and_huge_ones(self):
        for shift in (-5, -HUGE, HUGE):
            houses = (("a", ("seller", 1, shift + 1)), ("b", ("trader", 1, -shift)), ("c", ("buyer", 1, shift + 1)))
            web = web_of_ladder((houses, ((0, 1, shift, shift + 2), (1, 2, shift, shift + 2))))
            self.assertEqual([row[2] for row in web[1]], [shift, shift + 1, shift + 2] * 2)
            self.assertEqual(web[0][0][1], ("sides", 0, (), 1, (2, 1)))
            self.assertEqual(web[0][1][1], ("trader", 1, -shift, (0, 1, 2), (3, 4, 5)))
            self.assertEqual(web[0][2][1], ("sides", 1, (3, 4), 0, ()))

    def test_costs_and_values_at_the_prices(self):
        for cost, sells in ((3, (2, 1, 0)), (4, (2, 1, 0)), (5, (2, 1)), (6, (2,)), (7, ()), (HUGE, ()),
                            (-HUGE, (2, 1, 0))):
            for value, buys in ((3, ()), (4, (0,)), (5, (0, 1)), (6, (0, 1, 2)), (7, (0, 1, 2)), (-HUGE, ())):
                houses = (("a", ("seller", 9, cost)), ("b", ("buyer", 9, value)))
                web = web_of_ladder((houses, ((0, 1, 4, 6),)))
                self.assertEqual(web[0][0][1], ("sides", 0, (), 9, sells))
                self.assertEqual(web[0][1][1], ("sides", 9, buys, 0, ()))
                both = tuple(c for c in range(3) if c in sells and c in buys)
                self.assertEqual(all_at_rest(web), (both,))


class RandomLaddersTest(unittest.TestCase):
    def test_by_the_words_of_the_document(self):
        for seed in range(80):
            ladder = random_ladder(seed, 3 + seed % 6, seed % 7, 1 + seed % 4)
            before = copy.deepcopy(ladder)
            web = web_of_ladder(ladder)
            self.assertEqual(web, by_the_words(ladder))
            self.assertEqual(ladder, before)
            self.assertIsNone(check_web(web))
            self.assertEqual(read_web(write_web(web)), web)
            self.assertTrue(is_sound(web) and is_steady(web))

    def test_large_ladders(self):
        for seed in range(6):
            ladder = random_ladder(seed, 30, 20, 3)
            web = web_of_ladder(ladder)
            self.assertEqual(web, by_the_words(ladder))
            self.assertLessEqual(len(web[1]), 60)
            for network in (network_of(best_for_buyers(web)), network_of(best_for_sellers(web))):
                self.assertTrue(is_at_rest(web, network))
                self.check_prices(ladder, web, network)
        houses = (("a", ("seller", 30, 0)), ("b", ("buyer", 30, 59)))
        web = web_of_ladder((houses, ((0, 1, 0, 59),)))
        self.assertEqual(web[0][0][1][4], tuple(range(60))[::-1])
        self.assertEqual(web[0][1][1][2], tuple(range(60)))

    def test_prices_at_rest(self):
        told = 0
        for seed in range(150):
            ladder = random_ladder(seed, 3 + seed % 3, 5, 2)
            web = web_of_ladder(ladder)
            for network in all_at_rest(web):
                told += self.check_prices(ladder, web, network)
        self.assertGreater(told, 200)

    def check_prices(self, ladder, web, network):
        """Point [48], for each price of each link from a seller to a buyer."""
        told = 0
        houses, _ = ladder
        contracts = web[1]
        for number, (seller, buyer, price) in enumerate(contracts):
            (kind, units, cost), (other, wanted, value) = houses[seller][1], houses[buyer][1]
            if kind != "seller" or other != "buyer" or number in network:
                continue
            sold = [contracts[c][2] for c in network if contracts[c][0] == seller]
            bought = [contracts[c][2] for c in network if contracts[c][1] == buyer]
            filled = len(sold) == units and all(p >= price for p in sold)
            served = len(bought) == wanted and all(p <= price for p in bought)
            self.assertTrue(price < cost or filled or price > value or served)
            told += 1
        return told


if __name__ == "__main__":
    unittest.main()
