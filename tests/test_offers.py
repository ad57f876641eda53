"""Points [17], [19] to [22] and the interface of nochaingains.offers."""

import unittest

from nochaingains.choices import choose
from nochaingains.offers import is_at_rest, judge, told_offers, verdict
from nochaingains.stands import best_for_buyers, best_for_sellers, network_of
from tests import brute
from tests.samples import FREE, KINDS, busy_web, double_line, hub, layered_web, line_web, random_web


class SmallWebsTest(unittest.TestCase):
    def test_line(self):
        web = line_web()
        self.assertEqual(told_offers(web, ()), (0, 1))
        self.assertEqual(told_offers(web, (0, 1)), (0, 1))
        self.assertEqual(verdict(web, (0, 1)), ("rest", (0, 1)))
        self.assertEqual(verdict(web, ()), ("chain", (0, 1)))
        self.assertEqual(verdict(web, (0,)), ("drops", 1, ()))
        self.assertEqual(verdict(web, (1,)), ("drops", 1, ()))
        self.assertIs(is_at_rest(web, (0, 1)), True)
        self.assertIs(is_at_rest(web, ()), False)
        self.assertIs(is_at_rest(web, (0,)), False)

    def test_judge(self):
        web = line_web()
        self.assertIs(judge(web, (0, 1), (0, 1)), True)
        for network, offers in (((0, 1), ()), ((0, 1), (0,)), ((), ()), ((), (0, 1)), ((0,), (0, 1)), ((), (0,))):
            self.assertIs(judge(web, network, offers), False)

    def test_offers_have_all_of_the_network(self):
        web = ((("a", FREE), ("b", FREE)), ((0, 1, 5),))
        self.assertIs(judge(web, (), ()), True)
        self.assertIs(judge(web, (0,), ()), False)
        empty_handed = hub(2, 0, ("sides", 0, (), 0, ()))
        self.assertIs(judge(empty_handed, (), (0, 1)), True)
        self.assertIs(judge(empty_handed, (), (0,)), False)

    def test_webs_without_contracts(self):
        for web in (((), ()), ((("a", FREE),), ())):
            self.assertEqual(told_offers(web, ()), ())
            self.assertEqual(verdict(web, ()), ("rest", ()))
            self.assertIs(judge(web, (), ()), True)
            self.assertIs(is_at_rest(web, ()), True)

    def test_the_least_house_that_drops_with_what_it_chooses(self):
        web = hub(2, 2, ("maker", 1, (1, 0), (3, 2)))
        self.assertEqual(verdict(web, (0, 1, 2, 3)), ("drops", 0, (1, 3)))
        houses, contracts = web
        web = ((houses[0], houses[1], ("shop", ("sides", 1, (2, 3), 0, ()))), contracts)
        self.assertEqual(verdict(web, (0, 1, 2, 3)), ("drops", 0, (1, 3)))
        self.assertEqual(verdict(web, (2, 3)), ("drops", 0, ()))
        web = ((("hub", ("sides", 9, (0, 1), 9, (2, 3))),) + web[0][1:], contracts)
        self.assertEqual(verdict(web, (0, 2, 3)), ("drops", 2, (2,)))

    def test_told_offers_need_no_network_at_rest(self):
        web = double_line(3)
        self.assertEqual(told_offers(web, (0,)), (0, 2, 3))
        self.assertEqual(told_offers(web, (1, 2, 3)), (0, 1, 2, 3))
        self.assertEqual(told_offers(web, (3,)), (0, 1, 2, 3))
        never = hub(1, 1, ("maker", 0, (0,), (1,)))
        self.assertEqual(told_offers(never, ()), (0,))

    def test_houses_are_gone_through_from_sellers_to_buyers(self):
        houses = (("c", ("sides", 1, (0,), 0, ())), ("b", ("maker", 1, (1,), (0,))), ("a", ("sides", 0, (), 1, (1,))))
        web = (houses, ((1, 0, 5), (2, 1, 5)))
        self.assertEqual(told_offers(web, ()), (0, 1))
        closed = (houses[:2] + (("a", ("sides", 0, (), 0, ())),), web[1])
        self.assertEqual(told_offers(closed, ()), ())

    def told_by_words(self, web, network):
        """Point [21], in the order of a search from each house to its sellers."""
        shown = {c: c in network for c in range(len(web[1]))}
        done = []

        def go(house):
            if house in done:
                return
            for seller, buyer, _ in web[1]:
                if buyer == house:
                    go(seller)
            done.append(house)
            mine = brute.own(web, house)
            buys = [c for c in mine if web[1][c][1] == house and shown[c]]
            sells = [c for c in mine if web[1][c][0] == house]
            for x in sells:
                if x not in network:
                    known = buys + [c for c in sells if c in network] + [x]
                    shown[x] = x in choose(web, house, tuple(sorted(known)))

        for house in range(len(web[0])):
            go(house)
        return tuple(c for c in shown if shown[c])

    def test_by_trying_all_lots(self):
        kinds = set()
        for seed in range(40):
            for web in (random_web(seed, 4, 5), busy_web(seed, 4, 5), random_web(seed, 4, 5, (KINDS[seed % 6],))):
                for network in brute.all_sets(range(5)):
                    rest = brute.at_rest(web, network)
                    told = told_offers(web, network)
                    self.assertEqual(told, self.told_by_words(web, network))
                    self.assertIs(judge(web, network, told), rest)
                    self.assertIs(is_at_rest(web, network), rest)
                    found = verdict(web, network)
                    kinds.add(found[0])
                    gaining = brute.gaining(web, network)
                    if not brute.kept(web, network):
                        house = min(h for h in range(4) if set(brute.own(web, h)) & set(network)
                                    != set(choose(web, h, network)))
                        self.assertEqual(found, ("drops", house, choose(web, house, network)))
                    elif gaining:
                        self.assertEqual(found, ("chain", gaining[0]))
                    else:
                        self.assertTrue(rest)
                        self.assertEqual(found, ("rest", told))
        self.assertEqual(kinds, {"drops", "chain", "rest"})

    def test_judge_by_the_words_of_the_document(self):
        for seed in range(15):
            for web in (random_web(seed, 4, 4), busy_web(seed, 4, 4)):
                for network in brute.all_sets(range(4)):
                    any_right = False
                    for offers in brute.all_sets(range(4)):
                        right = brute.right_offers(web, network, offers)
                        self.assertIs(judge(web, network, offers), right)
                        any_right = any_right or right
                    self.assertEqual(any_right, brute.at_rest(web, network))


class LargeWebsTest(unittest.TestCase):
    def test_more_chains_than_could_be_gone_through(self):
        web = double_line(30)
        self.assertEqual(verdict(web, ()), ("chain", tuple(range(0, 58, 2))))
        found = verdict(web, tuple(range(0, 58, 2)))
        self.assertEqual(found[0], "rest")
        self.assertIs(judge(web, tuple(range(0, 58, 2)), found[1]), True)

    def test_best_networks_are_at_rest(self):
        for seed in range(6):
            web = layered_web(seed, 10, 3, 60)
            for stand in (best_for_buyers(web), best_for_sellers(web)):
                network = network_of(stand)
                self.assertIs(judge(web, network, stand[0]), True)
                found = verdict(web, network)
                self.assertEqual(found[0], "rest")
                self.assertIs(judge(web, network, found[1]), True)
            self.assertEqual(verdict(web, tuple(range(60)))[0], "drops")


if __name__ == "__main__":
    unittest.main()
