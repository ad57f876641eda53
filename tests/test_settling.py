"""Points [23], [24], [28], [46] and the interface of nochaingains.settling."""

import copy
import unittest

from nochaingains.allofthem import all_settled
from nochaingains.comings import end_buyers, end_sellers, without
from nochaingains.settling import settle_down, settle_up
from nochaingains.stands import best_for_buyers, best_for_sellers, is_settled, join, meet
from tests import brute
from tests.samples import FREE, busy_web, double_line, layered_web, line_web, random_web, two_rests


def small_webs(many, contracts=4):
    for seed in range(many):
        yield random_web(seed, 4, contracts)
        yield busy_web(seed, 3, contracts)
    yield two_rests()


def everything_of(web):
    return tuple(range(len(web[1])))


class ByHandTest(unittest.TestCase):
    def test_line(self):
        web = line_web()
        self.assertEqual(settle_down(web, ((0, 1), ())), ((0, 1), (0, 1)))
        self.assertEqual(settle_up(web, ((), (0, 1))), ((0, 1), (0, 1)))
        self.assertEqual(settle_down(web, ((0, 1), (1,))), ((0, 1), (0, 1)))

    def test_two_networks_at_rest(self):
        web = two_rests()
        top, bottom = ((0, 1, 2, 3), (1, 2)), ((0, 3), (0, 1, 2, 3))
        for settled in (top, bottom):
            self.assertEqual(settle_down(web, settled), settled)
            self.assertEqual(settle_up(web, settled), settled)
        self.assertEqual(settle_down(web, ((0, 1, 2, 3), ())), top)
        self.assertEqual(settle_up(web, ((), (0, 1, 2, 3))), bottom)

    def test_webs_without_contracts(self):
        for web in (((), ()), ((("a", FREE), ("b", ("table", ()))), ())):
            self.assertEqual(settle_down(web, ((), ())), ((), ()))
            self.assertEqual(settle_up(web, ((), ())), ((), ()))


class SettlingTest(unittest.TestCase):
    def test_all_stands_of_small_webs(self):
        seen = {"down": 0, "up": 0}
        for web in small_webs(12):
            settled = all_settled(web)
            for stand in brute.all_stands(web):
                following = brute.next_of(web, stand)
                if brute.at_most(following, stand):
                    found = settle_down(web, stand)
                    below = [one for one in settled if brute.at_most(one, stand)]
                    self.assertEqual([one for one in below if all(brute.at_most(x, one) for x in below)], [found])
                    seen["down"] += found != stand
                if brute.at_most(stand, following):
                    found = settle_up(web, stand)
                    above = [one for one in settled if brute.at_most(stand, one)]
                    self.assertEqual([one for one in above if all(brute.at_most(one, x) for x in above)], [found])
                    seen["up"] += found != stand
        self.assertGreater(min(seen.values()), 100)

    def test_from_the_greatest_and_the_least_stand(self):
        webs = list(small_webs(20, 6)) + [layered_web(seed, 10, 3, 60) for seed in range(3)] + [double_line(30)]
        for web in webs:
            everything = everything_of(web)
            self.assertEqual(settle_down(web, (everything, ())), best_for_buyers(web))
            self.assertEqual(settle_up(web, ((), everything)), best_for_sellers(web))

    def test_from_settled_stands(self):
        for web in small_webs(20, 6):
            for stand in all_settled(web):
                self.assertEqual(settle_down(web, stand), stand)
                self.assertEqual(settle_up(web, stand), stand)

    def test_between_joins_and_meets(self):
        for web in small_webs(20, 6):
            stands = all_settled(web)[:6]
            for one in stands:
                for other in stands:
                    upper = (tuple(sorted(set(one[0]) | set(other[0]))), tuple(sorted(set(one[1]) & set(other[1]))))
                    lower = (tuple(sorted(set(one[0]) & set(other[0]))), tuple(sorted(set(one[1]) | set(other[1]))))
                    self.assertEqual(settle_up(web, upper), join(web, one, other))
                    self.assertEqual(settle_down(web, lower), meet(web, one, other))

    def test_an_end_seller_leaves(self):
        changed = 0
        for web in list(small_webs(30, 6)) + [layered_web(seed, 10, 3, 60) for seed in range(3)]:
            before = best_for_buyers(web)
            for house in end_sellers(web):
                after = without(web, house)
                found = settle_down(after, before)
                self.assertEqual(found, best_for_buyers(after))
                self.assertTrue(brute.at_most(found, before))
                changed += found != before
        self.assertGreater(changed, 10)

    def test_an_end_buyer_leaves(self):
        changed = 0
        for web in list(small_webs(30, 6)) + [layered_web(seed, 10, 3, 60) for seed in range(3)]:
            before = best_for_sellers(web)
            for house in end_buyers(web):
                after = without(web, house)
                found = settle_up(after, before)
                self.assertEqual(found, best_for_sellers(after))
                self.assertTrue(brute.at_most(before, found))
                changed += found != before
        self.assertGreater(changed, 10)

    def test_kinds_of_results(self):
        for web in small_webs(10, 6):
            for settle, stand in ((settle_down, (everything_of(web), ())), (settle_up, ((), everything_of(web)))):
                before = copy.deepcopy((web, stand))
                found = settle(web, stand)
                self.assertEqual((web, stand), before)
                self.assertTrue(is_settled(web, found))
                self.assertIs(type(found), tuple)
                self.assertEqual(len(found), 2)
                for part in found:
                    self.assertEqual(part, tuple(sorted(set(part))))


if __name__ == "__main__":
    unittest.main()
