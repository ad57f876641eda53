"""Points [14] to [16], [22], [53] and the interface of nochaingains.walks."""

import copy
import unittest

from nochaingains.allofthem import all_at_rest
from nochaingains.chains import gaining_chain
from nochaingains.choices import is_sound
from nochaingains.networks import droppings, is_kept
from nochaingains.offers import is_at_rest, verdict
from nochaingains.walks import step_from, walk
from tests import brute
from tests.samples import FREE, KINDS, busy_web, double_line, hub, layered_web, line_web, random_web, two_rests


def chosen_by_both(web, contracts):
    """The contracts that both of their houses choose out of all of them."""
    picks = [brute.out_of(web, house, contracts) for house in range(len(web[0]))]
    return tuple(c for c in contracts if c in picks[web[1][c][0]] and c in picks[web[1][c][1]])


def step_by_words(web, network):
    """Point [53], with all chains tried."""
    left = chosen_by_both(web, network)
    if left != network:
        return left
    chains = brute.gaining(web, network)
    return chosen_by_both(web, tuple(sorted(network + chains[0]))) if chains else None


def one_each(sellers, buyers, rows):
    """A web of houses that each make one contract at most, with their wishes, and the contracts in order."""
    houses = [(name, ("sides", 0, (), 1, wishes)) for name, wishes in zip("abc", sellers)]
    houses += [(name, ("sides", 1, wishes, 0, ())) for name, wishes in zip("def", buyers)]
    return (tuple(houses), tuple(("abcdef".index(seller), "abcdef".index(buyer), 5) for seller, buyer in rows.split()))


def turning_web():
    """A sound web with networks at rest, in which the walk from the empty network goes round for ever."""
    return one_each(((1, 4, 2), (5, 0), (3,)), ((0, 3, 1), (2, 5), (4,)), "bd ad ae cd af be")


def ring_webs():
    return [turning_web(), one_each(((1, 5, 3), (4,), (0, 2)), ((5,), (2, 4, 1), (3, 0)), "cf ae ce af be ad")]


def small_webs(many, contracts=5):
    for seed in range(many):
        yield random_web(seed, 4, contracts)
        yield busy_web(seed, 4, contracts)
        yield random_web(seed, 5, contracts, (KINDS[seed % 6],))
    yield two_rests()


class StepTest(unittest.TestCase):
    def test_line(self):
        web = line_web()
        self.assertEqual(step_from(web, ()), (0, 1))
        self.assertIsNone(step_from(web, (0, 1)))
        self.assertEqual(step_from(web, (0,)), ())
        self.assertEqual(step_from(web, (1,)), ())

    def test_webs_without_contracts(self):
        for web in (((), ()), ((("a", FREE), ("b", ("split", ()))), ())):
            self.assertIsNone(step_from(web, ()))
            self.assertEqual(walk(web, ()), ("rest", ((),)))

    def test_houses_that_want_nothing(self):
        nothing = ("sides", 0, (), 0, ())
        for wants in (FREE, ("sides", 9, (0, 1), 9, ()), nothing, ("split", ())):
            web = ((("a", nothing), ("b", wants)), ((0, 1, 5), (0, 1, 5)))
            for network in ((0,), (0, 1)):
                self.assertEqual(step_from(web, network), ())
                self.assertEqual(walk(web, network), ("rest", (network, ())))
            self.assertEqual(walk(web, ()), ("rest", ((),)))

    def test_each_contract_that_one_house_does_not_choose_is_left_out(self):
        # The hub drops 0 and 2, the farm 2 as well, and the shop 3.
        houses = (("hub", ("sides", 1, (1, 0, 2), 9, (3, 4))), ("farm", ("sides", 0, (), 9, (0, 1))),
                  ("shop", ("sides", 9, (4,), 0, ())))
        web = (houses, ((1, 0, 5), (1, 0, 5), (1, 0, 5), (0, 2, 5), (0, 2, 5)))
        self.assertEqual(droppings(web, (0, 1, 2, 3, 4)), ((0, (0, 2)), (1, (2,)), (2, (3,))))
        self.assertEqual(step_from(web, (0, 1, 2, 3, 4)), (1, 4))
        self.assertEqual(step_from(web, (0, 2, 3)), (0,))

    def test_a_network_that_is_not_kept_gets_no_chain(self):
        web = two_rests()
        self.assertEqual(gaining_chain(web, (0, 2)), (3,))
        self.assertEqual(step_from(web, (0, 2)), (2,))

    def test_the_least_chain_goes_in_and_what_is_not_chosen_goes_out(self):
        web = hub(3, 0, ("sides", 1, (2, 1, 0), 0, ()))
        self.assertEqual(step_from(web, (0,)), (1,))
        self.assertEqual(step_from(web, (1,)), (2,))
        self.assertEqual(walk(web, ()), ("rest", ((), (0,), (1,), (2,))))

    def test_by_the_words_of_the_document(self):
        kinds = {"drops": 0, "chain": 0, "rest": 0}
        for web in small_webs(12):
            for network in brute.all_sets(range(len(web[1]))):
                found = step_from(web, network)
                self.assertEqual(found, step_by_words(web, network))
                kind = verdict(web, network)[0]
                kinds[kind] += 1
                self.assertEqual(found is None, kind == "rest")
        self.assertGreater(min(kinds.values()), 30)


class WalkTest(unittest.TestCase):
    def test_rest_at_once(self):
        self.assertEqual(walk(line_web(), (0, 1)), ("rest", ((0, 1),)))
        self.assertEqual(walk(two_rests(), (1, 2)), ("rest", ((1, 2),)))

    def test_rest_after_several_steps(self):
        self.assertEqual(walk(line_web(), ()), ("rest", ((), (0, 1))))
        self.assertEqual(walk(line_web(), (0,)), ("rest", ((0,), (), (0, 1))))
        self.assertEqual(walk(two_rests(), ()), ("rest", ((), (0,), (2,), (1, 2))))
        web = double_line(30)
        least = tuple(range(0, 58, 2))
        self.assertEqual(walk(web, ()), ("rest", ((), least)))
        self.assertEqual(walk(web, (5,)), ("rest", ((5,), (), least)))
        self.assertEqual(walk(web, least[:-1]), ("rest", tuple(least[:k] for k in range(28, -1, -1)) + (least,)))

    def test_for_ever(self):
        web = turning_web()
        self.assertTrue(is_sound(web))
        self.assertNotEqual(all_at_rest(web), ())
        turning = ((0, 2), (0, 4), (4, 5), (1, 5), (3, 5), (2, 3))
        self.assertEqual(walk(web, ()), ("ring", ((), (0,)) + turning, 2))
        self.assertEqual(walk(web, (0,)), ("ring", ((0,),) + turning, 1))
        for k in range(6):
            self.assertEqual(walk(web, turning[k]), ("ring", turning[k:] + turning[:k], 0))
        self.assertEqual(walk(web, (0, 2, 3)), ("ring", ((0, 2, 3),) + turning, 1))

    def test_rings_that_begin_with_a_network_that_is_not_kept(self):
        for web in ring_webs():
            found = [walk(web, network) for network in brute.all_sets(range(6)) if not is_kept(web, network)]
            rings = [told for told in found if told[0] == "ring"]
            self.assertGreater(len(rings), 3)
            for _, networks, index in rings:
                self.assertGreater(index, 0)
                self.assertEqual(step_from(web, networks[-1]), networks[index])

    def test_walks_by_steps(self):
        ends = {"rest": 0, "ring": 0}
        for web in list(small_webs(12)) + ring_webs():
            for network in brute.all_sets(range(len(web[1]))):
                before = copy.deepcopy((web, network))
                found = walk(web, network)
                self.assertEqual((web, network), before)
                networks = found[1]
                self.assertIs(type(networks), tuple)
                self.assertEqual(networks[0], network)
                self.assertEqual(len(set(networks)), len(networks))
                for one, other in zip(networks, networks[1:]):
                    self.assertEqual(step_by_words(web, one), other)
                ends[found[0]] += 1
                if found[0] == "rest":
                    self.assertEqual(len(found), 2)
                    self.assertTrue(is_at_rest(web, networks[-1]))
                else:
                    self.assertEqual(step_by_words(web, networks[-1]), networks[found[2]])
        self.assertGreater(min(ends.values()), 10)

    def test_kept_dropped_chain_and_walk_agree(self):
        for web in list(small_webs(10)) + ring_webs():
            for network in brute.all_sets(range(len(web[1])))[::2]:
                networks = walk(web, network)[1]
                for one, other in zip(networks, networks[1:]):
                    gone = {c for _, dropped in droppings(web, one) for c in dropped}
                    if is_kept(web, one):
                        chain = gaining_chain(web, one)
                        self.assertLessEqual(set(chain), set(other))
                        self.assertLessEqual(set(other), set(one) | set(chain))
                    else:
                        self.assertEqual(other, tuple(c for c in one if c not in gone))

    def test_large_webs(self):
        for seed in range(4):
            web = layered_web(seed, 10, 3, 60)
            for network in ((), tuple(range(60)), tuple(range(0, 60, 3))):
                found = walk(web, network)
                self.assertEqual(found[1][0], network)
                if found[0] == "rest":
                    self.assertTrue(is_at_rest(web, found[1][-1]))
                else:
                    self.assertEqual(step_from(web, found[1][-1]), found[1][found[2]])


if __name__ == "__main__":
    unittest.main()
