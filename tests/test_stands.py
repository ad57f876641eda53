"""Points [23] to [28] and the interface of nochaingains.stands."""

import unittest

from nochaingains.choices import is_steady
from nochaingains.networks import likes, trades
from nochaingains.offers import is_at_rest, judge
from nochaingains.stands import (
    best_for_buyers, best_for_sellers, is_settled, join, meet, network_of, next_stand,
)
from nochaingains.webs import buys_of, sells_of
from tests import brute
from tests.samples import FREE, busy_web, double_line, layered_web, line_web, random_web, two_rests


def settled_of(web):
    return [stand for stand in brute.all_stands(web) if brute.next_of(web, stand) == stand]


def least_of(stands):
    return [one for one in stands if all(brute.at_most(one, other) for other in stands)]


def greatest_of(stands):
    return [one for one in stands if all(brute.at_most(other, one) for other in stands)]


def small_webs(many, contracts=4):
    for seed in range(many):
        yield random_web(seed, 4, contracts)
        yield busy_web(seed, 3, contracts)


class StandsTest(unittest.TestCase):
    def test_line(self):
        web = line_web()
        everything = (0, 1)
        self.assertEqual(next_stand(web, (everything, ())), ((0, 1), (1,)))
        self.assertEqual(next_stand(web, ((0, 1), (0, 1))), ((0, 1), (0, 1)))
        self.assertEqual(next_stand(web, ((), ())), ((0, 1), (0, 1)))
        self.assertEqual(next_stand(web, ((1,), (0,))), ((0, 1), (0, 1)))
        self.assertIs(is_settled(web, ((0, 1), (0, 1))), True)
        self.assertIs(is_settled(web, ((), ())), False)

    def test_network_of_a_stand(self):
        self.assertEqual(network_of(((0, 2, 4), (1, 2, 4, 5))), (2, 4))
        self.assertEqual(network_of(((), (0, 1))), ())

    def test_webs_without_contracts(self):
        for web in (((), ()), ((("a", FREE),), ())):
            nothing = ((), ())
            self.assertEqual(next_stand(web, nothing), nothing)
            self.assertIs(is_settled(web, nothing), True)
            self.assertEqual(best_for_buyers(web), nothing)
            self.assertEqual(best_for_sellers(web), nothing)
            self.assertEqual(join(web, nothing, nothing), nothing)
            self.assertEqual(meet(web, nothing, nothing), nothing)

    def test_two_networks_at_rest(self):
        web = two_rests()
        self.assertEqual(best_for_buyers(web), ((0, 1, 2, 3), (1, 2)))
        self.assertEqual(best_for_sellers(web), ((0, 3), (0, 1, 2, 3)))
        self.assertEqual(network_of(best_for_buyers(web)), (1, 2))
        self.assertEqual(network_of(best_for_sellers(web)), (0, 3))
        top, bottom = best_for_buyers(web), best_for_sellers(web)
        self.assertEqual(join(web, top, bottom), top)
        self.assertEqual(meet(web, top, bottom), bottom)
        self.assertEqual(meet(web, top, top), top)
        self.assertEqual(join(web, bottom, bottom), bottom)

    def test_next_stands_by_the_words_of_the_document(self):
        for web in small_webs(15):
            for stand in brute.all_stands(web):
                after = brute.next_of(web, stand)
                self.assertEqual(next_stand(web, stand), after)
                self.assertIs(is_settled(web, stand), after == stand)

    def test_next_stands_keep_their_order(self):
        for web in small_webs(4, 3):
            stands = brute.all_stands(web)
            for one in stands:
                for other in stands:
                    if brute.at_most(one, other):
                        self.assertTrue(brute.at_most(next_stand(web, one), next_stand(web, other)))

    def test_among_all_settled_stands(self):
        several = 0
        for web in small_webs(25):
            settled = settled_of(web)
            several += len(settled) > 1
            self.assertEqual([best_for_buyers(web)], greatest_of(settled))
            self.assertEqual([best_for_sellers(web)], least_of(settled))
            for one in settled:
                for other in settled:
                    above = [s for s in settled if brute.at_most(one, s) and brute.at_most(other, s)]
                    below = [s for s in settled if brute.at_most(s, one) and brute.at_most(s, other)]
                    self.assertEqual([join(web, one, other)], least_of(above))
                    self.assertEqual([meet(web, one, other)], greatest_of(below))
        self.assertGreater(several, 10)

    def test_settled_stands_are_right_offers(self):
        for web in small_webs(8):
            settled = settled_of(web)
            for stand in settled:
                self.assertIs(judge(web, network_of(stand), stand[0]), True)
                self.assertIs(is_at_rest(web, network_of(stand)), True)
            for network in brute.all_sets(range(4)):
                for offers in brute.all_sets(range(4)):
                    if judge(web, network, offers):
                        asked = tuple(c for c in range(4) if c in network or c not in offers)
                        self.assertIn((offers, asked), settled)

    def test_the_bounds(self):
        web = double_line(30)
        for stand in (best_for_buyers(web), best_for_sellers(web)):
            self.assertIs(is_settled(web, stand), True)
            self.assertEqual(network_of(stand), tuple(range(0, 58, 2)))
        for seed in range(6):
            web = layered_web(seed, 6, 5, 60)
            top, bottom = best_for_buyers(web), best_for_sellers(web)
            self.assertTrue(is_settled(web, top) and is_settled(web, bottom))
            self.assertTrue(brute.at_most(bottom, top))
            self.assertEqual((join(web, top, bottom), meet(web, top, bottom)), (top, bottom))


class WhatHoldsOfBestNetworksTest(unittest.TestCase):
    def ends(self, web):
        houses = range(len(web[0]))
        buyers = [h for h in houses if buys_of(web, h) and not sells_of(web, h)]
        sellers = [h for h in houses if sells_of(web, h) and not buys_of(web, h)]
        return buyers, sellers

    def without(self, web, house):
        houses = tuple((name, ("sides", 0, (), 0, ()) if h == house else choice)
                       for h, (name, choice) in enumerate(web[0]))
        return (houses, web[1])

    def all_like(self, web, houses, one, other):
        for house in houses:
            self.assertTrue(likes(web, house, one, other))

    def test_end_houses_like_their_best_network(self):
        for web in small_webs(40, 5):
            buyers, sellers = self.ends(web)
            top, bottom = network_of(best_for_buyers(web)), network_of(best_for_sellers(web))
            for network in brute.all_sets(range(5)):
                if is_at_rest(web, network):
                    self.all_like(web, buyers, top, network)
                    self.all_like(web, buyers, network, bottom)
                    self.all_like(web, sellers, bottom, network)
                    self.all_like(web, sellers, network, top)

    def test_balances_in_steady_webs(self):
        steady = 0
        for web in small_webs(30, 5):
            if not is_steady(web):
                continue
            steady += 1
            balances = set()
            for network in brute.all_sets(range(5)):
                if is_at_rest(web, network):
                    pairs = [trades(web, house, network) for house in range(len(web[0]))]
                    balances.add(tuple(sells - buys for buys, sells in pairs))
            self.assertEqual(len(balances), 1)
        self.assertGreater(steady, 20)

    def test_an_end_house_leaves(self):
        for web in small_webs(40, 5):
            buyers, sellers = self.ends(web)
            for best in (best_for_buyers, best_for_sellers):
                before = network_of(best(web))
                for gone in sellers:
                    after = network_of(best(self.without(web, gone)))
                    self.all_like(web, buyers, before, after)
                    self.all_like(web, [h for h in sellers if h != gone], after, before)
                for gone in buyers:
                    after = network_of(best(self.without(web, gone)))
                    self.all_like(web, sellers, before, after)
                    self.all_like(web, [h for h in buyers if h != gone], after, before)


if __name__ == "__main__":
    unittest.main()
