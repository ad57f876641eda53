"""Points [35], [36] and the interface of nochaingains.lies."""

import random
import unittest
from itertools import permutations

from nochaingains.choices import choose, is_sound, is_steady, least_break
from nochaingains.comings import end_buyers, end_sellers
from nochaingains.lies import least_lie, told_instead
from nochaingains.networks import likes
from nochaingains.stands import best_for_buyers, network_of
from nochaingains.webs import buys_of, check_web, sells_of
from tests import brute
from tests.samples import (
    FREE, KINDS, any_choice, busy_web, double_line, layered_web, line_web, random_web, two_rests,
)

NOTHING = ("sides", 0, (), 0, ())


def best(web):
    return network_of(best_for_buyers(web))


def plain_lies(web, house):
    """All plain lies of an end house, each with its place in the order, in no order."""
    own = brute.own(web, house)
    for room in range(len(own), -1, -1):
        for size in range(len(own) + 1):
            for row in permutations(own, size):
                lie = ("sides", room, row, 0, ()) if buys_of(web, house) else ("sides", 0, (), room, row)
                yield (room, size, row), lie


def gaining_lies(web, house):
    truth = best(web)
    found = []
    for place, lie in plain_lies(web, house):
        houses = tuple((name, lie if h == house else choice) for h, (name, choice) in enumerate(web[0]))
        other = best((houses, web[1]))
        if likes(web, house, other, truth) and not likes(web, house, truth, other):
            found.append((place, lie))
    return sorted(found)


def small_ends(web):
    return [house for house in end_buyers(web) + end_sellers(web) if len(brute.own(web, house)) <= 3]


def crowd(seed):
    """A web of end buyers and end sellers alone, which want several contracts."""
    rng = random.Random(seed)
    rows = tuple((rng.randrange(3), 3 + rng.randrange(3), 1) for _ in range(7))
    houses = []
    for house in range(6):
        own = [c for c, row in enumerate(rows) if house in row[:2]]
        rng.shuffle(own)
        room = rng.randint(1, 2)
        choice = ("sides", 0, (), room, tuple(own)) if house < 3 else ("sides", room, tuple(own), 0, ())
        houses.append(("h" + "abcdef"[house], choice))
    return (tuple(houses), rows)


def unsteady_web():
    """Sellers a, s, u and buyers c, b, d, e; one new offer can make s turn two buyers away."""
    houses = (
        ("a", ("sides", 0, (), 1, (5, 4))),
        ("s", ("table", ((1,), (0,), (2, 3), (2,), (3,)))),
        ("u", ("sides", 0, (), 1, (6, 7))),
        ("c", ("sides", 1, (0, 4), 0, ())),
        ("b", ("sides", 1, (2, 6), 0, ())),
        ("d", ("sides", 1, (3, 5), 0, ())),
        ("e", ("sides", 1, (7, 1), 0, ())),
    )
    return (houses, ((1, 3, 1), (1, 6, 1), (1, 4, 1), (1, 5, 1), (0, 3, 1), (0, 5, 1), (2, 4, 1), (2, 6, 1)))


def some_webs(many):
    for seed in range(many):
        yield random_web(seed, 4, 6)
        yield random_web(seed, 4, 6, (KINDS[seed % 6],))
        yield busy_web(seed, 4, 6)
        yield crowd(seed)


class ToldInsteadTest(unittest.TestCase):
    def test_any_house(self):
        houses, contracts = line_web()
        table = ("table", ((0, 1),))
        self.assertEqual(told_instead(line_web(), 1, table), ((houses[0], ("mill", table), houses[2]), contracts))
        self.assertEqual(told_instead(line_web(), 0, NOTHING), ((("farm", NOTHING),) + houses[1:], contracts))
        split = ("split", (("sides", 1, (1,), 0, ()),))
        self.assertEqual(told_instead(line_web(), 2, split), (houses[:2] + (("shop", split),), contracts))
        self.assertEqual(told_instead(((("a", FREE),), ()), 0, NOTHING), ((("a", NOTHING),), ()))

    def test_the_truth_changes_nothing(self):
        for web in some_webs(5):
            for house, (_, choice) in enumerate(web[0]):
                self.assertEqual(told_instead(web, house, choice), web)


class LeastLieTest(unittest.TestCase):
    def test_a_seller_gains(self):
        web = two_rests()
        self.assertEqual(best(web), (1, 2))
        self.assertEqual(least_lie(web, 0), ("sides", 0, (), 1, (0,)))
        self.assertEqual(best(told_instead(web, 0, ("sides", 0, (), 1, (0,)))), (0, 3))
        self.assertEqual(least_lie(web, 1), ("sides", 0, (), 1, (3,)))
        self.assertIsNone(least_lie(web, 2))
        self.assertIsNone(least_lie(web, 3))

    def test_a_buyer_gains_in_a_web_that_is_not_steady(self):
        web = unsteady_web()
        self.assertTrue(is_sound(web) and not is_steady(web))
        # By the truth c turns b and d away and is turned away itself; then d has taken what it wanted next.
        self.assertEqual(best(web), (1, 5, 6))
        self.assertEqual(least_lie(web, 3), ("sides", 1, (4,), 0, ()))
        self.assertEqual(best(told_instead(web, 3, least_lie(web, 3))), (2, 3, 4, 7))
        for house in (4, 5, 6):
            found = gaining_lies(web, house)
            self.assertEqual(least_lie(web, house), found[0][1] if found else None)

    def test_no_lie_gains(self):
        for house in (0, 2):
            self.assertIsNone(least_lie(line_web(), house))
        web = double_line(3)
        self.assertEqual([least_lie(web, house) for house in (0, 2)], [None, None])

    def test_houses_without_contracts(self):
        for choice in (FREE, NOTHING, ("table", ()), ("split", ())):
            self.assertIsNone(least_lie(((("a", choice),), ()), 0))
            houses, contracts = two_rests()
            self.assertIsNone(least_lie((houses + (("e", choice),), contracts), 4))

    def test_one_contract(self):
        # The truth refuses it, and by the truth nothing else is liked.
        web = ((("a", NOTHING), ("b", ("sides", 1, (0,), 0, ()))), ((0, 1, 5),))
        self.assertEqual((least_lie(web, 0), least_lie(web, 1)), (None, None))

    def test_by_trying_all_plain_lies(self):
        counts = {}
        for web in some_webs(24):
            for house in small_ends(web):
                found = gaining_lies(web, house)
                lie = least_lie(web, house)
                self.assertEqual(lie, found[0][1] if found else None)
                many = len(brute.own(web, house))
                counts[many, lie is None] = counts.get((many, lie is None), 0) + 1
                if lie is not None:
                    self.assertIsNone(check_web(told_instead(web, house, lie)))
        for key in ((1, True), (2, True), (3, True), (2, False), (3, False)):
            self.assertGreater(counts.get(key, 0), 0, key)

    def test_a_longer_list_may_be_needed(self):
        lengths = set()
        for seed in range(10, 32):
            web = crowd(seed)
            for house in small_ends(web):
                lie = least_lie(web, house)
                if lie is not None:
                    self.assertEqual(lie, gaining_lies(web, house)[0][1])
                    lengths.add((lie[1] + lie[3], len(lie[2] + lie[4])))
        self.assertEqual(lengths, {(1, 1), (2, 2)})

    def test_large_webs(self):
        for web in (layered_web(1, 10, 3, 60), double_line(30)):
            for house in small_ends(web)[:4]:
                lie = least_lie(web, house)
                self.assertTrue(lie is None or lie[0] == "sides")


class WhoLiesForNothingTest(unittest.TestCase):
    def test_an_end_buyer_of_one_contract(self):
        tried = 0
        for seed, web in enumerate(some_webs(30)):
            rng = random.Random(seed)
            for house in end_buyers(web):
                buys = list(buys_of(web, house))
                wanted = tuple(rng.sample(buys, rng.randint(0, len(buys))))
                web = told_instead(web, house, ("sides", 1, wanted, rng.randint(0, 2), ()))
                if not is_steady(web):
                    continue
                truth = best(web)
                if len(buys) <= 3:
                    self.assertIsNone(least_lie(web, house))
                for _ in range(6):
                    other = told_instead(web, house, any_choice(rng, buys, []))
                    outs = [choose(other, house, row) for row in brute.all_sets(buys)]
                    if max(map(len, outs)) <= 1 and least_break(other, house) is None:
                        tried += 1
                        self.assertTrue(likes(web, house, truth, best(other)))
                self.assertEqual(sells_of(web, house), ())
        self.assertGreater(tried, 200)


if __name__ == "__main__":
    unittest.main()
