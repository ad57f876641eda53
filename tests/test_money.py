"""Point [40] and the interface of nochaingains.money."""

import random
import unittest

from nochaingains.choices import choose
from nochaingains.money import profit
from tests import brute
from tests.samples import FREE, KINDS, busy_web, hub, layered_web, line_web, random_web

HUGE = 10 ** 5000


def parts_of(choice):
    return choice[1] if choice[0] == "split" else (choice,)


def all_costs(web, network):
    return sum(part[2] * len(set(part[3]) & set(network))
               for _, choice in web[0] for part in parts_of(choice) if part[0] == "trader")


class ProfitTest(unittest.TestCase):
    def test_prices_of_sells_less_prices_of_buys(self):
        web = line_web()
        self.assertEqual([profit(web, house, (0, 1)) for house in range(3)], [5, 4, -9])
        self.assertEqual([profit(web, house, (0,)) for house in range(3)], [5, -5, 0])
        self.assertEqual([profit(web, house, (1,)) for house in range(3)], [0, 9, -9])
        self.assertEqual([profit(web, house, ()) for house in range(3)], [0, 0, 0])

    def test_any_prices(self):
        web = hub(3, 2, FREE, (-4, HUGE, 0, 7, -HUGE))
        self.assertEqual(profit(web, 0, (0, 3)), 11)
        self.assertEqual(profit(web, 0, (1,)), -HUGE)
        self.assertEqual(profit(web, 0, (0, 1, 2, 3, 4)), 11 - 2 * HUGE)
        self.assertEqual(profit(web, 1, (0, 1, 2, 3, 4)), HUGE - 4)
        self.assertEqual(profit(web, 2, (3, 4)), HUGE - 7)

    def test_costs_of_traders(self):
        prices = (5, 5, 5, 9, 9, 9)
        for cost in (0, 2, -3, HUGE, -HUGE):
            web = hub(3, 3, ("trader", 1, cost, (0, 2), (3,)), prices)
            self.assertEqual(profit(web, 0, (0, 3)), 4 - cost)
            self.assertEqual(profit(web, 0, (0, 2, 3, 4)), 8 - 2 * cost)
            # Contract 1 is no mentioned buy, and sells have no costs.
            self.assertEqual(profit(web, 0, (1, 3, 4)), 13)
            self.assertEqual(profit(web, 0, (0, 1)), -10 - cost)
            self.assertEqual(profit(web, 0, ()), 0)
            self.assertEqual((profit(web, 1, (0, 2, 3)), profit(web, 2, (0, 2, 3))), (10, -9))

    def test_other_kinds_have_no_costs(self):
        for choice in (("maker", 7, (0,), (1,)), ("sides", 7, (0,), 8, (1,)), ("table", ((0, 1),)),
                       ("caps", (0,), (((0,), 3),), (1,), (((1,), 4),)), ("split", ()),
                       ("split", (("maker", 7, (0,), (1,)),))):
            web = hub(1, 1, choice, (5, 9))
            self.assertEqual(profit(web, 0, (0, 1)), 4)
            self.assertEqual(profit(web, 0, (0,)), -5)

    def test_traders_as_parts(self):
        parts = (("trader", 2, 3, (0, 1), (4,)), ("sides", 2, (2,), 2, (5,)), ("trader", 1, -10, (3,), ()))
        web = hub(4, 2, ("split", parts), (1, 1, 1, 1, 50, 60))
        self.assertEqual(profit(web, 0, (0, 4)), 50 - 1 - 3)
        self.assertEqual(profit(web, 0, (0, 1, 2, 4, 5)), 110 - 3 - 6)
        self.assertEqual(profit(web, 0, (3,)), 9)
        self.assertEqual(profit(web, 0, (0, 1, 2, 3, 4, 5)), 110 - 4 - 6 + 10)

    def test_all_profits_add_to_nothing_without_the_costs(self):
        costs = set()
        for seed in range(40):
            for web in (random_web(seed, 5, 7), random_web(seed, 4, 6, ("trader", "split")),
                        random_web(seed, 4, 6, (KINDS[seed % 6],)), busy_web(seed, 5, 6)):
                rng = random.Random(seed)
                for _ in range(4):
                    network = tuple(c for c in range(len(web[1])) if rng.random() < 0.6)
                    total = sum(profit(web, house, network) for house in range(len(web[0])))
                    costs.add(all_costs(web, network))
                    self.assertEqual(total + all_costs(web, network), 0)
        self.assertTrue(min(costs) < 0 < max(costs))
        web = layered_web(2, 10, 3, 60)
        everything = tuple(range(60))
        self.assertEqual(sum(profit(web, house, everything) for house in range(30)), -all_costs(web, everything))

    def test_traders_choose_the_greatest_profit(self):
        for seed in range(40):
            rng = random.Random(seed)
            buys, sells = rng.randint(0, 3), rng.randint(0, 3)
            mentioned = [c for c in range(buys + sells) if rng.random() < 0.85]
            trader = ("trader", rng.randint(0, 3), rng.randint(-2, 2), tuple(c for c in mentioned if c < buys),
                      tuple(c for c in mentioned if c >= buys))
            prices = tuple(rng.randint(-2, 4) for _ in range(buys + sells))
            web = hub(buys, sells, trader, prices)
            for offered in brute.all_sets(range(buys + sells)):
                found = []
                for row in brute.all_sets(c for c in offered if c in mentioned):
                    near = [c for c in row if c < buys]
                    if 2 * len(near) == len(row) and len(near) <= trader[1]:
                        found.append(profit(web, 0, row))
                self.assertEqual(profit(web, 0, choose(web, 0, offered)), max(found))

    def test_webs_without_contracts(self):
        self.assertEqual(profit(((("a", ("trader", 1, 5, (), ())),), ()), 0, ()), 0)


if __name__ == "__main__":
    unittest.main()
