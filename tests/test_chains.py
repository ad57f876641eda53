"""Points [15] to [17] and the interface of nochaingains.chains."""

import unittest
from itertools import permutations

from nochaingains.chains import chain_within, gaining_chain, gaining_chains, is_chain
from nochaingains.networks import lot_gains
from tests import brute
from tests.samples import FREE, KINDS, busy_web, double_line, layered_web, line_web, random_web


class IsChainTest(unittest.TestCase):
    def test_line(self):
        web = line_web()
        for row, expected in (((), False), ((0,), True), ((1,), True), ((0, 1), True), ((1, 0), False),
                              ((0, 0), False), ((2,), False), ((-1,), False), ((0, 2), False), ((-2, -1), False), ((-2, 1), False), ((0, -1), False),
                              ((0, 1, 1), False), ((10 ** 5000,), False), ((-10 ** 5000,), False)):
            self.assertIs(is_chain(web, row), expected)

    def test_without_contracts(self):
        self.assertIs(is_chain(((), ()), ()), False)
        self.assertIs(is_chain(((), ()), (0,)), False)

    def test_by_trying_all_rows(self):
        for seed in range(20):
            web = random_web(seed, 4, 5)
            chains = brute.chains(web, range(5))
            for size in range(4):
                for row in permutations(range(5), size):
                    self.assertIs(is_chain(web, row), row in chains)


class SmallWebsTest(unittest.TestCase):
    def test_line(self):
        web = line_web()
        self.assertEqual(gaining_chain(web, ()), (0, 1))
        self.assertEqual(gaining_chains(web, ()), ((0, 1),))
        self.assertEqual(gaining_chain(web, (0,)), (1,))
        self.assertEqual(gaining_chain(web, (1,)), (0,))
        self.assertIsNone(gaining_chain(web, (0, 1)))
        self.assertEqual(gaining_chains(web, (0, 1)), ())
        self.assertEqual(chain_within(web, (), (0, 1)), (0, 1))

    def test_webs_without_contracts(self):
        for web in (((), ()), ((("a", FREE),), ())):
            self.assertIsNone(gaining_chain(web, ()))
            self.assertEqual(gaining_chains(web, ()), ())

    def test_several_contracts_between_two_houses(self):
        web = double_line(3)
        self.assertEqual(gaining_chain(web, ()), (0, 2))
        self.assertEqual(gaining_chains(web, ()), ((0, 2), (0, 3), (1, 2), (1, 3)))
        self.assertEqual(gaining_chain(web, (1, 3)), (0,))
        self.assertIn(chain_within(web, (), (1, 2)), ((1, 2),))

    def test_fewer_contracts_go_before_lesser_ones(self):
        houses = (("a", ("sides", 0, (), 9, (0, 2))), ("b", ("maker", 1, (0,), (1,))), ("c", ("sides", 9, (1, 2), 0, ())))
        web = (houses, ((0, 1, 5), (1, 2, 5), (0, 2, 5)))
        self.assertEqual(gaining_chains(web, ()), ((2,), (0, 1)))
        self.assertEqual(gaining_chain(web, ()), (2,))
        self.assertEqual(gaining_chain(web, (2,)), (0, 1))

    def test_a_lesser_next_contract_that_leads_the_long_way(self):
        houses = (("a", ("sides", 0, (), 1, (3,))), ("b", ("maker", 1, (3,), (0, 2))), ("c", ("maker", 1, (0,), (1,))),
                  ("d", ("sides", 2, (1, 2), 0, ())))
        web = (houses, ((1, 2, 5), (2, 3, 5), (1, 3, 5), (0, 1, 5)))
        self.assertEqual(gaining_chains(web, ()), ((3, 2), (3, 0, 1)))
        self.assertEqual(gaining_chain(web, ()), (3, 2))
        self.assertEqual(gaining_chain(web, (2,)), (3,))

    def test_by_trying_all_chains_and_lots(self):
        lengths = set()
        for seed in range(30):
            for web in (random_web(seed, 4, 5), busy_web(seed, 5, 6)):
                for network in brute.all_sets(range(len(web[1]))):
                    gaining = brute.gaining(web, network)
                    lengths.add(len(gaining[0]) if gaining else 0)
                    self.assertEqual(gaining_chains(web, network), gaining)
                    self.assertEqual(gaining_chain(web, network), gaining[0] if gaining else None)
                    lots = [lot for lot in brute.lots(web, network) if brute.gains(web, network, lot)]
                    self.assertEqual(lots != [], gaining != ())
                    for lot in lots:
                        chain = chain_within(web, network, lot)
                        self.assertIn(chain, gaining)
                        self.assertLessEqual(set(chain), set(lot))
        self.assertEqual(lengths, {0, 1, 2, 3, 4})

    def test_each_kind_of_choice(self):
        for kind in KINDS:
            for seed in range(8):
                web = random_web(seed, 4, 5, kinds=(kind,))
                for network in brute.all_sets(range(5)):
                    self.assertEqual(gaining_chains(web, network), brute.gaining(web, network))

    def test_twelve_contracts(self):
        web = double_line(7)
        self.assertEqual(len(gaining_chains(web, ())), 64)
        self.assertEqual(gaining_chains(web, ())[-1], (1, 3, 5, 7, 9, 11))


class LargeWebsTest(unittest.TestCase):
    def test_more_chains_than_could_be_gone_through(self):
        for split in (False, True):
            web = double_line(30, split)
            self.assertEqual(gaining_chain(web, ()), tuple(range(0, 58, 2)))
            self.assertEqual(gaining_chain(web, (0,)), tuple(range(2, 58, 2)))
            self.assertIsNone(gaining_chain(web, tuple(range(0, 58, 2))))
            self.assertEqual(chain_within(web, (), tuple(range(1, 58, 2))), tuple(range(1, 58, 2)))

    def test_layers(self):
        for seed in range(6):
            web = layered_web(seed, 10, 3, 60)
            for network in ((), tuple(range(0, 60, 3)), tuple(range(60))):
                chain = gaining_chain(web, network)
                if chain is not None:
                    self.assertTrue(is_chain(web, chain))
                    self.assertTrue(lot_gains(web, network, tuple(sorted(chain))))

    def test_a_house_in_the_middle_of_everything(self):
        pairs = tuple((tuple(range(k, 30)), 30) for k in range(30))
        choice = ("caps", tuple(range(30)), pairs, tuple(range(30, 60)), ())
        houses = (("hub", choice), ("farm", ("sides", 0, (), 0, ())), ("shop", ("sides", 0, (), 0, ())))
        web = (houses, tuple((1, 0, 5) if k < 30 else (0, 2, 5) for k in range(60)))
        self.assertIsNone(gaining_chain(web, ()))


if __name__ == "__main__":
    unittest.main()
