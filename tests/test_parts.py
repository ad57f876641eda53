"""Point [45] and the interface of nochaingains.parts."""

import random
import unittest

from nochaingains.allofthem import all_at_rest
from nochaingains.choices import choose, is_sound
from nochaingains.offers import is_at_rest
from nochaingains.parts import part_web, parts_of
from nochaingains.stands import best_for_buyers, best_for_sellers
from nochaingains.webs import check_web
from tests import brute
from tests.samples import FREE, KINDS, hub, layered_web, line_web, name_of, random_web, two_rests, with_choices


def joined(web):
    """The parts, by joining houses until nothing changes."""
    parts = [{house} for house in range(len(web[0]))]
    for seller, buyer, _ in web[1]:
        near = [part for part in parts if part & {seller, buyer}]
        parts = [part for part in parts if part not in near] + [set().union(*near)]
    return tuple(sorted(tuple(sorted(part)) for part in parts))


def here(web, part, contracts):
    """What is there of a set of contracts in a part, with the numbers of its web."""
    own = [c for c, row in enumerate(web[1]) if row[0] in part]
    return tuple(own.index(c) for c in contracts if c in own)


def scattered(seed, houses=8, contracts=8, kinds=KINDS):
    """A sound web in several parts, whose houses and contracts lie between each other."""
    rng = random.Random(seed)
    rows = []
    order = rng.sample(range(houses), houses)
    for _ in range(contracts):
        side = rng.randrange(2)
        one, other = sorted(rng.sample(range(side, houses - 1, 2), 2))
        rows.append((order[one], order[other], rng.randint(-2, 6)))
    return with_choices(rng, [name_of(k) for k in range(houses)], tuple(rows), kinds, True)


class PartsTest(unittest.TestCase):
    def test_by_hand(self):
        self.assertEqual(parts_of(line_web()), ((0, 1, 2),))
        self.assertEqual(parts_of(((), ())), ())
        self.assertEqual(parts_of(((("a", FREE),), ())), ((0,),))
        self.assertEqual(parts_of(((("a", FREE), ("b", FREE), ("c", FREE)), ())), ((0,), (1,), (2,)))

    def test_order_by_least_houses(self):
        houses = tuple((name, FREE) for name in "abcdefg")
        web = (houses, ((6, 2, 5), (5, 1, 5), (5, 4, 5), (4, 1, 5)))
        self.assertEqual(parts_of(web), ((0,), (1, 4, 5), (2, 6), (3,)))
        # What is wanted plays no part, nor do sellers and buyers.
        self.assertEqual(parts_of((houses, ((0, 6, 5), (3, 6, 5), (3, 2, 5)))), ((0, 2, 3, 6), (1,), (4,), (5,)))

    def test_long_rows_of_contracts(self):
        houses = tuple(("h" + "a" * k, FREE) for k in range(1, 31))
        chain = (houses, tuple((k, k + 2, 5) for k in range(28)[::-1]))
        self.assertEqual(parts_of(chain), (tuple(range(0, 30, 2)), tuple(range(1, 30, 2))))
        pairs = (houses, tuple((k, 29 - k, 5) for k in range(15)) * 4)
        self.assertEqual(parts_of(pairs), tuple((k, 29 - k) for k in range(15)))

    def test_by_joining(self):
        many = set()
        for seed in range(60):
            for web in (scattered(seed), random_web(seed, 9, seed % 9), layered_web(seed, 6, 5, 20 + seed % 41)):
                self.assertEqual(parts_of(web), joined(web))
                many.add(len(parts_of(web)))
        self.assertGreater(len(many), 6)


class PartWebTest(unittest.TestCase):
    def test_a_web_of_one_part(self):
        for web in (line_web(), two_rests(), hub(3, 2, ("table", ((0, 1), (4,))))):
            (part,) = parts_of(web)
            self.assertEqual(part_web(web, part), web)

    def test_houses_without_contracts(self):
        web = ((("a", FREE), ("b", ("table", ())), ("c", ("split", (("maker", 3, (), ()),)))), ())
        for house in range(3):
            self.assertEqual(part_web(web, (house,)), ((web[0][house],), ()))

    def test_all_kinds_of_choices(self):
        # Two hubs; the contracts of the second one are 1, 3, 5 .. and get the numbers 0, 1, 2 ..
        def of_hub(choice):
            houses = (("a", FREE), ("x", FREE), ("b", choice), ("c", FREE), ("y", FREE), ("z", FREE))
            contracts = []
            for k in range(3):
                contracts += [(0, 1, k), (3, 2, 10 + k)]
            for k in range(3):
                contracts += [(1, 4, k), (2, 5, -k)]
            return (houses, tuple(contracts))

        for choice, expected in (
            (("maker", 5, (5, 1), (11, 7, 9)), ("maker", 5, (2, 0), (5, 3, 4))),
            (("sides", 1, (3, 5, 1), 7, (9,)), ("sides", 1, (1, 2, 0), 7, (4,))),
            (("table", ((9, 11), (1, 7), (3,))), ("table", ((4, 5), (0, 3), (1,)))),
            (("trader", 3, 5, (1, 5), (7, 9)), ("trader", 3, 5, (0, 2), (3, 4))),
            (("caps", (5, 3), (((1, 3, 5), 1), ((1,), 3)), (9, 7), (((7, 11), 0),)),
             ("caps", (2, 1), (((0, 1, 2), 1), ((0,), 3)), (4, 3), (((3, 5), 0),))),
            (("split", (("table", ((1, 7),)), ("maker", 1, (5, 3), (11,)), ("caps", (), (((1, 3), 3),), (9,), ()),
                        ("sides", 1, (), 1, ()), ("trader", 1, 9, (), ()))),
             ("split", (("table", ((0, 3),)), ("maker", 1, (2, 1), (5,)), ("caps", (), (((0, 1), 3),), (4,), ()),
                        ("sides", 1, (), 1, ()), ("trader", 1, 9, (), ())))),
        ):
            web = of_hub(choice)
            self.assertIsNone(check_web(web))
            self.assertEqual(parts_of(web), ((0, 1, 4), (2, 3, 5)))
            self.assertEqual(part_web(web, (2, 3, 5)), (
                (("b", expected), ("c", FREE), ("z", FREE)),
                ((1, 0, 10), (1, 0, 11), (1, 0, 12), (0, 2, 0), (0, 2, -1), (0, 2, -2)),
            ))
            self.assertEqual(part_web(web, (0, 1, 4)), (
                (("a", FREE), ("x", FREE), ("y", FREE)),
                ((0, 1, 0), (0, 1, 1), (0, 1, 2), (1, 2, 0), (1, 2, 1), (1, 2, 2)),
            ))

    def test_houses_choose_alike(self):
        for seed in range(40):
            web = scattered(seed)
            for part in parts_of(web):
                inside = part_web(web, part)
                self.assertIsNone(check_web(inside))
                self.assertTrue(is_sound(inside))
                self.assertEqual([name for name, _ in inside[0]], [web[0][house][0] for house in part])
                for offered in brute.all_sets(range(len(web[1])))[::5]:
                    for number, house in enumerate(part):
                        self.assertEqual(choose(inside, number, here(web, part, offered)),
                                         here(web, part, choose(web, house, offered)))

    def test_best_stands(self):
        several = 0
        for seed in range(40):
            for web in (scattered(seed), scattered(seed, 20, 40, ("maker", "sides", "trader"))):
                several += len([part for part in parts_of(web) if len(part) > 1]) > 1
                for best in (best_for_buyers, best_for_sellers):
                    shown, asked = best(web)
                    for part in parts_of(web):
                        self.assertEqual(best(part_web(web, part)), (here(web, part, shown), here(web, part, asked)))
        self.assertGreater(several, 40)

    def test_networks_at_rest(self):
        for seed in range(20):
            web = scattered(seed, 8, 6)
            insides = [(part, part_web(web, part)) for part in parts_of(web)]
            for network in brute.all_sets(range(6)):
                parts_rest = all(is_at_rest(inside, here(web, part, network)) for part, inside in insides)
                self.assertEqual(is_at_rest(web, network), parts_rest)
            many = 1
            for _, inside in insides:
                many *= len(all_at_rest(inside))
            self.assertEqual(len(all_at_rest(web)), many)

    def test_webs_that_are_not_sound(self):
        web = hub(3, 0, ("table", ((0, 1), (2,))))
        houses = (("z", FREE),) + web[0]
        moved = (houses, tuple((seller + 1, buyer + 1, price) for seller, buyer, price in web[1]))
        self.assertEqual(parts_of(moved), ((0,), (1, 2), (3,)))
        self.assertEqual(part_web(moved, (1, 2)), (web[0][:2], web[1]))

    def test_large_webs(self):
        for seed in range(3):
            web = scattered(seed, 30, 60)
            parts = parts_of(web)
            self.assertGreater(len(parts), 1)
            for part in parts:
                inside = part_web(web, part)
                self.assertIsNone(check_web(inside))
                self.assertEqual(parts_of(inside), (tuple(range(len(part))),))
        groups = tuple((tuple(range(k % 30 + 1)), 20) for k in range(80))
        web = hub(30, 30, ("caps", tuple(range(30)), groups, tuple(range(30, 60)), ()))
        self.assertEqual(part_web(web, (0, 1, 2)), web)


if __name__ == "__main__":
    unittest.main()
