"""Point [50] and the interface of nochaingains.mirrors."""

import copy
import unittest

from nochaingains.allofthem import all_at_rest
from nochaingains.chains import gaining_chains
from nochaingains.choices import choose, is_sound, is_steady, least_break
from nochaingains.lots import all_by_lots
from nochaingains.mirrors import mirror_of
from nochaingains.networks import lot_gains
from nochaingains.offers import is_at_rest
from nochaingains.stands import best_for_buyers, best_for_sellers
from nochaingains.webs import check_web
from tests import brute
from tests.samples import FREE, KINDS, busy_web, double_line, hub, layered_web, line_web, random_web, two_rests

HUGE = 10 ** 5000
# For each kind a choice of a house with the buys 0, 1, 2 and the sells 3, 4, and what it is in the mirror.
TURNED = (
    (("maker", 2, (1, 0), (4, 3)), ("maker", 2, (4, 3), (1, 0))),
    (("sides", 1, (2, 0), 7, (4,)), ("sides", 7, (4,), 1, (2, 0))),
    (("table", ((4,), (0, 3), (1, 2))), ("table", ((4,), (0, 3), (1, 2)))),
    (("trader", 2, -3, (0, 2), (3, 4)), ("trader", 2, -3, (3, 4), (0, 2))),
    (("caps", (2, 1), (((0, 1, 2), 1), ((0,), 4)), (3,), (((3, 4), 0),)),
     ("caps", (3,), (((3, 4), 0),), (2, 1), (((0, 1, 2), 1), ((0,), 4)))),
    (("caps", (), (), (4,), ()), ("caps", (4,), (), (), ())),
)
PARTS = (("maker", 1, (0,), (3,)), ("sides", 2, (1,), 0, ()), ("table", ((2, 4),)), ("trader", 0, 5, (), ()),
         ("caps", (), (((0, 1), 1),), (), ()))


def webs(many, contracts=5, sound=True):
    for seed in range(many):
        yield random_web(seed, 4, contracts, sound=sound)
        yield random_web(seed, 4, contracts, (KINDS[seed % 6],), sound=sound)
        yield busy_web(seed, 4, contracts)


class ByHandTest(unittest.TestCase):
    def test_line(self):
        farm, mill = ("farm", ("sides", 1, (0,), 0, ())), ("mill", ("maker", 1, (1,), (0,)))
        shop = ("shop", ("sides", 0, (), 1, (1,)))
        self.assertEqual(mirror_of(line_web()), ((farm, mill, shop), ((1, 0, -5), (2, 1, -9))))

    def test_all_kinds(self):
        for choice, turned in TURNED:
            web = hub(3, 2, choice, (5, 0, -7, HUGE, -HUGE))
            found = mirror_of(web)
            self.assertEqual(found[0][0], ("hub", turned))
            self.assertEqual(found[1], ((0, 1, -5), (0, 1, 0), (0, 1, 7), (2, 0, -HUGE), (2, 0, HUGE)))

    def test_split_choices(self):
        turned = (("maker", 1, (3,), (0,)), ("sides", 0, (), 2, (1,)), ("table", ((2, 4),)), ("trader", 0, 5, (), ()),
                  ("caps", (), (), (), (((0, 1), 1),)))
        for parts, expected in ((PARTS, turned), (PARTS[:1], turned[:1]), ((), ())):
            self.assertEqual(mirror_of(hub(3, 2, ("split", parts)))[0][0], ("hub", ("split", expected)))

    def test_without_houses_and_contracts(self):
        self.assertEqual(mirror_of(((), ())), ((), ()))
        web = ((("a", ("sides", 1, (), 2, ())), ("b", ("table", ()))), ())
        self.assertEqual(mirror_of(web), ((("a", ("sides", 2, (), 1, ())), ("b", ("table", ()))), ()))

    def test_houses_that_want_nothing(self):
        nothing = ("sides", 0, (), 0, ())
        web = ((("a", nothing), ("b", ("split", ())), ("c", ("sides", 0, (), 1, ()))), ((0, 1, 3), (2, 1, 0)))
        houses = (("a", nothing), ("b", ("split", ())), ("c", ("sides", 1, (), 0, ())))
        self.assertEqual(mirror_of(web), (houses, ((1, 0, -3), (1, 2, 0))))

    def test_equal_prices_of_traders(self):
        # Among equal prices the least number goes first, in the mirror too.
        web = hub(2, 2, ("trader", 1, 0, (0, 1), (2, 3)), (5, 5, 6, 6))
        self.assertEqual(choose(web, 0, (0, 1, 2, 3)), (0, 2))
        self.assertEqual(choose(mirror_of(web), 0, (0, 1, 2, 3)), (0, 2))


class MirrorTest(unittest.TestCase):
    def test_the_mirror_of_the_mirror(self):
        for web in list(webs(20, sound=False)) + [layered_web(1, 10, 3, 60), double_line(30), two_rests(), ((), ())]:
            before = copy.deepcopy(web)
            found = mirror_of(web)
            self.assertIsNone(check_web(found))
            self.assertEqual(mirror_of(found), web)
            self.assertEqual(web, before)

    def test_houses_choose_alike(self):
        for web in webs(16, sound=False):
            found = mirror_of(web)
            for offered in brute.all_sets(range(5)):
                for house in range(4):
                    self.assertEqual(choose(found, house, offered), choose(web, house, offered))
            for house in range(4):
                self.assertEqual(least_break(found, house), least_break(web, house))
            self.assertEqual((is_sound(found), is_steady(found)), (is_sound(web), is_steady(web)))

    def test_lots_gain_alike(self):
        gaining = 0
        for web in webs(8, sound=False):
            found = mirror_of(web)
            for network in brute.all_sets(range(5))[::3]:
                for lot in brute.lots(web, network):
                    self.assertEqual(lot_gains(found, network, lot), lot_gains(web, network, lot))
                    gaining += lot_gains(web, network, lot)
            self.assertEqual(all_by_lots(found), all_by_lots(web))
        self.assertGreater(gaining, 50)

    def test_chains_turned_round(self):
        long = 0
        for web in webs(12, 6):
            found = mirror_of(web)
            for network in ((), (1, 4), (0, 2, 3)):
                chains = gaining_chains(web, network)
                turned = sorted([chain[::-1] for chain in chains], key=lambda chain: (len(chain), chain))
                self.assertEqual(gaining_chains(found, network), tuple(turned))
                long += len([chain for chain in chains if len(chain) > 1])
        self.assertGreater(long, 20)

    def test_networks_at_rest(self):
        for web in webs(12):
            self.assertEqual(all_at_rest(mirror_of(web)), all_at_rest(web))
            for network in brute.all_sets(range(5))[::3]:
                self.assertEqual(is_at_rest(mirror_of(web), network), is_at_rest(web, network))

    def test_best_stands(self):
        large = [layered_web(seed, 10, 3, 60) for seed in range(3)] + [double_line(30), hub(3, 2, FREE), two_rests()]
        for web in list(webs(20, 6)) + large:
            for best, worst in ((best_for_buyers, best_for_sellers), (best_for_sellers, best_for_buyers)):
                shown, asked = best(web)
                self.assertEqual(worst(mirror_of(web)), (asked, shown))


if __name__ == "__main__":
    unittest.main()
