"""Points [14], [15], [18] and the interface of nochaingains.networks."""

import unittest

from nochaingains.choices import choose
from nochaingains.networks import barring, droppings, is_kept, likes, lot_gains, trades
from tests import brute
from tests.samples import FREE, busy_web, hub, line_web, random_web


def some_webs(many, sound):
    for seed in range(many):
        yield random_web(seed, 4, 5, sound=sound)
        yield busy_web(seed, 4, 5)


class KeptTest(unittest.TestCase):
    def test_line(self):
        web = line_web()
        self.assertIs(is_kept(web, ()), True)
        self.assertIs(is_kept(web, (0,)), False)
        self.assertIs(is_kept(web, (1,)), False)
        self.assertIs(is_kept(web, (0, 1)), True)
        self.assertEqual(droppings(web, ()), ())
        self.assertEqual(droppings(web, (0,)), ((1, (0,)),))
        self.assertEqual(droppings(web, (1,)), ((1, (1,)),))

    def test_several_houses_drop(self):
        nothing = ("sides", 0, (), 0, ())
        web = ((("a", nothing), ("b", FREE), ("c", ("sides", 1, (2, 1), 0, ()))), ((0, 1, 5), (1, 2, 5), (1, 2, 5)))
        self.assertEqual(droppings(web, (0, 1, 2)), ((0, (0,)), (1, (0, 1, 2)), (2, (1,))))
        self.assertEqual(droppings(web, (0, 1)), ((0, (0,)), (1, (0, 1))))
        self.assertIs(is_kept(web, (0, 1, 2)), False)

    def test_dropped_contracts_are_in_order(self):
        web = hub(40, 0, ("table", ()))
        for network in ((1, 8), (3, 17, 32), (0, 5, 39), tuple(range(40))):
            self.assertEqual(droppings(web, network), ((0, network),))

    def test_webs_without_anything(self):
        for web in (((), ()), ((("a", FREE), ("b", FREE)), ())):
            self.assertIs(is_kept(web, ()), True)
            self.assertEqual(droppings(web, ()), ())

    def test_by_the_words_of_the_document(self):
        for web in some_webs(25, False):
            for network in brute.all_sets(range(5)):
                self.assertEqual(is_kept(web, network), brute.kept(web, network))
                rows = []
                for house in range(4):
                    mine = [c for c in network if c in brute.own(web, house)]
                    left = tuple(c for c in mine if c not in choose(web, house, network))
                    if left:
                        rows.append((house, left))
                self.assertEqual(droppings(web, network), tuple(rows))


class TradesTest(unittest.TestCase):
    def test_numbers_of_buys_and_sells(self):
        web = hub(3, 2, FREE)
        self.assertEqual(trades(web, 0, (0, 1, 2, 3, 4)), (3, 2))
        self.assertEqual(trades(web, 0, (2, 3, 4)), (1, 2))
        self.assertEqual(trades(web, 0, ()), (0, 0))
        self.assertEqual(trades(web, 1, (0, 2, 3)), (0, 2))
        self.assertEqual(trades(web, 2, (0, 2, 3)), (1, 0))


class LotsTest(unittest.TestCase):
    def test_line(self):
        web = line_web()
        self.assertIs(lot_gains(web, (), (0, 1)), True)
        self.assertIs(lot_gains(web, (), (0,)), False)
        self.assertIs(lot_gains(web, (0,), (1,)), True)
        self.assertIsNone(barring(web, (), (0, 1)))
        self.assertEqual(barring(web, (), (0,)), (1, 0))
        self.assertEqual(barring(web, (), (1,)), (1, 1))

    def test_contracts_of_the_network_may_be_dropped(self):
        web = hub(2, 0, ("sides", 1, (1, 0), 0, ()))
        self.assertIs(lot_gains(web, (0,), (1,)), True)
        self.assertIs(lot_gains(web, (1,), (0,)), False)
        self.assertEqual(barring(web, (1,), (0,)), (0, 0))

    def test_the_least_house_and_the_least_contract_bar(self):
        web = hub(2, 2, ("sides", 1, (1, 0), 0, ()))
        self.assertEqual(barring(web, (), (0, 1, 2, 3)), (0, 0))
        self.assertEqual(barring(web, (), (1, 2, 3)), (0, 2))
        houses, contracts = web
        web = ((houses[0], ("farm", ("sides", 0, (), 0, ())), houses[2]), contracts)
        self.assertEqual(barring(web, (), (1,)), (1, 1))
        self.assertEqual(barring(web, (), (0, 1)), (0, 0))

    def test_only_houses_of_the_lot_count(self):
        houses, contracts = line_web()
        web = (houses, contracts)
        self.assertIs(lot_gains(web, (1,), (0,)), True)
        both = (houses + (("c", FREE), ("d", FREE)), contracts + ((3, 4, 1),))
        self.assertIs(lot_gains(both, (0,), (2,)), False)
        self.assertEqual(barring(both, (0,), (2,)), (3, 2))

    def test_by_the_words_of_the_document(self):
        for web in some_webs(12, False):
            for network in brute.all_sets(range(5)):
                for lot in brute.lots(web, network):
                    gains = brute.gains(web, network, lot)
                    self.assertIs(lot_gains(web, network, lot), gains)
                    bar = barring(web, network, lot)
                    self.assertEqual(bar is None, gains)
                    if bar is not None:
                        house, contract = bar
                        together = tuple(sorted(network + lot))
                        for h in range(house + 1):
                            out = [c for c in lot if c in brute.own(web, h) and c not in choose(web, h, together)]
                            self.assertEqual(out[:1], [contract] if h == house else [])


class LikesTest(unittest.TestCase):
    def test_sides(self):
        web = hub(3, 0, ("sides", 1, (1, 2, 0), 0, ()))
        self.assertIs(likes(web, 0, (1,), (0, 2)), True)
        self.assertIs(likes(web, 0, (0,), (2,)), False)
        self.assertIs(likes(web, 0, (2,), (0,)), True)
        self.assertIs(likes(web, 0, (0,), (0,)), True)
        self.assertIs(likes(web, 0, (), (0,)), False)
        self.assertIs(likes(web, 0, (0, 1), (0, 1)), False)
        self.assertIs(likes(web, 0, (), ()), True)

    def test_only_own_contracts_count(self):
        web = line_web()
        self.assertIs(likes(web, 0, (0, 1), (0,)), True)
        self.assertIs(likes(web, 0, (0,), (0, 1)), True)
        self.assertIs(likes(web, 1, (0,), (0, 1)), False)

    def test_by_the_words_of_the_document(self):
        for web in some_webs(6, False):
            networks = brute.all_sets(range(5))
            for one in networks:
                for other in networks:
                    both = tuple(sorted(set(one) | set(other)))
                    for house in range(4):
                        mine = tuple(c for c in one if c in brute.own(web, house))
                        self.assertIs(likes(web, house, one, other), choose(web, house, both) == mine)


if __name__ == "__main__":
    unittest.main()
