"""Points [33], [34] and the interface of nochaingains.markets."""

import copy
import random
import unittest

from nochaingains.choices import choose, is_sound
from nochaingains.errors import (
    ContractError, InvalidWeb, NoContract, NoHouse, NothingToRedo, NothingToUndo, NotSound,
)
from nochaingains.markets import Market, replayed
from nochaingains.offers import judge, verdict
from nochaingains.stands import best_for_buyers, best_for_sellers, network_of
from nochaingains.webs import buys_of, check_web, sells_of
from tests import brute
from tests.samples import (
    FREE, KINDS, additive_table, any_choice, busy_web, hub, layered_web, line_web, random_web, two_rests,
)

HUGE = 10 ** 5000
NOTHING = ("sides", 0, (), 0, ())
PAIRS = ("table", ((0, 1), (2,)))


def shown(market):
    return (market.web(), market.cancelled(), market.live_web(), market.journal())


class MarketCase(unittest.TestCase):
    def refused(self, market, error, deed):
        before = shown(market)
        with self.assertRaises(error) as caught:
            market.do(deed)
        self.assertIs(type(caught.exception), error)
        self.assertEqual(shown(market), before)


class DeedsTest(MarketCase):
    def test_a_new_market(self):
        market = Market(line_web())
        self.assertEqual(shown(market), (line_web(), (), line_web(), ()))
        self.assertEqual((market.best_for_buyers(), market.best_for_sellers()), ((0, 1), (0, 1)))
        self.assertEqual(market.verdict((0, 1)), ("rest", (0, 1)))
        self.assertEqual(market.verdict(()), ("chain", (0, 1)))
        empty = Market(((), ()))
        self.assertEqual(shown(empty), (((), ()), (), ((), ()), ()))
        self.assertEqual((empty.best_for_buyers(), empty.verdict(())), ((), ("rest", ())))

    def test_choose(self):
        houses, contracts = line_web()
        market = Market(line_web())
        deed = ("choose", 1, ("maker", 0, (0,), (1,)))
        self.assertIsNone(market.do(deed))
        self.assertEqual(market.web(), ((houses[0], ("mill", ("maker", 0, (0,), (1,))), houses[2]), contracts))
        self.assertEqual((market.best_for_buyers(), market.verdict(())), ((), ("rest", (0,))))
        self.assertEqual(market.journal(), (deed,))
        self.assertIsNone(market.do(("choose", 2, NOTHING)))
        self.assertEqual(market.web()[0][2], ("shop", NOTHING))

    def test_choices_of_all_kinds(self):
        market = Market(hub(2, 2, FREE))
        for choice in (
            ("maker", HUGE, (1, 0), (3,)), ("sides", 0, (), HUGE, (3, 2)), ("table", ((0, 2), (1, 2))), ("table", ()),
            ("trader", HUGE, -HUGE, (0, 1), (2,)), ("caps", (1, 0), (((0, 1), HUGE),), (2,), (((2, 3), 0),)),
            ("split", (("table", ((0, 2),)), ("maker", 1, (1,), (3,)))), ("split", ()),
        ):
            self.assertIsNone(market.do(("choose", 0, choice)))
            self.assertEqual(market.web()[0][0], ("hub", choice))

    def test_offer(self):
        houses, contracts = line_web()
        market = Market(line_web())
        self.assertEqual(market.do(("offer", 0, 2, -7)), 2)
        self.assertEqual(market.do(("offer", 0, 2, HUGE)), 3)
        self.assertEqual(market.do(("offer", 0, 1, 5)), 4)
        self.assertEqual(market.web(), (houses, contracts + ((0, 2, -7), (0, 2, HUGE), (0, 1, 5))))
        self.assertEqual(market.best_for_buyers(), (0, 1))
        self.assertIsNone(market.do(("choose", 2, ("sides", 2, (3, 1, 2), 0, ()))))
        self.assertIsNone(market.do(("choose", 0, ("sides", 0, (), 1, (3, 0)))))
        self.assertEqual(market.best_for_buyers(), (3,))
        self.assertEqual(Market(((("a", FREE), ("b", FREE)), ())).do(("offer", 1, 0, 0)), 0)

    def test_cancel(self):
        market = Market(two_rests())
        self.assertIsNone(market.do(("cancel", 3)))
        self.assertEqual((market.cancelled(), market.web()), ((3,), two_rests()))
        self.assertIsNone(market.do(("cancel", 0)))
        self.assertEqual(market.cancelled(), (0, 3))
        self.assertEqual((market.best_for_buyers(), market.best_for_sellers()), ((1, 2), (1, 2)))
        self.assertEqual(market.verdict((0, 3)), ("drops", 0, ()))
        self.assertEqual(market.verdict((1, 2))[0], "rest")
        self.assertEqual(market.do(("offer", 0, 3, 5)), 4)
        self.assertEqual(market.cancelled(), (0, 3))

    def test_deeds_of_a_cancelled_contract(self):
        market = Market(line_web())
        market.do(("cancel", 0))
        again = ("maker", 2, (0,), (1,))
        self.assertIsNone(market.do(("choose", 1, again)))
        self.assertEqual(market.web()[0][1], ("mill", again))
        self.assertEqual(market.live_web()[0][1], ("mill", ("maker", 2, (), (1,))))
        self.assertEqual(market.best_for_buyers(), ())


class WrongDeedsTest(MarketCase):
    def test_no_such_house(self):
        market = Market(line_web())
        for house in (-1, 3, HUGE, -HUGE):
            self.refused(market, NoHouse, ("choose", house, NOTHING))
            self.refused(market, NoHouse, ("offer", house, 0, 5))
            self.refused(market, NoHouse, ("offer", 0, house, 5))
        self.refused(Market(((), ())), NoHouse, ("choose", 0, NOTHING))

    def test_wrong_choices(self):
        market = Market(hub(3, 2, FREE))
        for choice in (
            ("maker", -1, (0,), (3,)), ("maker", 1, (3,), (0,)), ("maker", 1, (0, 0), ()), ("maker", -HUGE, (), ()),
            ("sides", 1, (5,), 1, ()), ("sides", 1, (), -1, ()), ("sides", 1, (HUGE,), 1, ()),
            ("table", ((),)), ("table", ((1, 0),)), ("table", ((0,), (0,))), ("table", ((0, 9),)),
            ("trader", 1, 0, (1, 0), ()), ("trader", -1, 0, (0,), ()),
            ("caps", (0,), (((), 1),), (), ()), ("caps", (0,), (((0, 1), 1), ((1, 2), 1)), (), ()),
            ("caps", (), (((0,), -1),), (), ()),
            ("split", (("split", ()),)), ("split", (("maker", 1, (0,), ()), ("maker", 1, (0,), ()))),
        ):
            with self.subTest(choice):
                self.refused(market, InvalidWeb, ("choose", 0, choice))

    def test_choices_that_do_not_hold_together(self):
        market = Market(hub(3, 2, FREE))
        for choice in (PAIRS, ("table", ((3, 4),)), ("split", (PAIRS, ("maker", 1, (), (3,))))):
            self.refused(market, NotSound, ("choose", 0, choice))
        many = additive_table(random.Random(1), list(range(18)), 2)
        market = Market(hub(30, 0, FREE))
        self.assertIsNone(market.do(("choose", 0, many)))
        odd = ((0, 1), (2, 3))
        rows = odd + tuple(row for row in many[1] if row not in odd)
        self.refused(market, NotSound, ("choose", 0, ("table", rows)))
        self.refused(market, NotSound, ("choose", 0, ("table", tuple((k, k + 1) for k in range(29)))))

    def test_cancelled_contracts_count_for_holding_together(self):
        market = Market(hub(3, 0, FREE))
        market.do(("cancel", 1))
        self.refused(market, NotSound, ("choose", 0, PAIRS))
        self.assertIsNone(market.do(("choose", 0, ("table", ((0,), (1,), (2,))))))

    def test_rings_of_sales(self):
        market = Market(line_web())
        for seller, buyer in ((0, 0), (2, 2), (1, 0), (2, 1), (2, 0)):
            self.refused(market, InvalidWeb, ("offer", seller, buyer, 5))
        # Cancelled contracts count as well.
        market.do(("cancel", 0))
        self.refused(market, InvalidWeb, ("offer", 2, 0, 5))
        self.refused(market, InvalidWeb, ("offer", 1, 0, 5))
        self.assertEqual(market.do(("offer", 0, 2, 5)), 2)

    def test_a_ring_through_a_contract_that_was_undone(self):
        market = Market(((("a", FREE), ("b", FREE)), ()))
        self.assertEqual(market.do(("offer", 0, 1, 5)), 0)
        self.refused(market, InvalidWeb, ("offer", 1, 0, 5))
        market.do(("undo",))
        self.assertEqual(market.do(("offer", 1, 0, 5)), 0)
        self.refused(market, NothingToRedo, ("redo",))

    def test_no_such_contract(self):
        market = Market(line_web())
        for contract in (-1, 2, HUGE, -HUGE):
            self.refused(market, NoContract, ("cancel", contract))
        market.do(("cancel", 1))
        self.refused(market, NoContract, ("cancel", 1))
        self.refused(Market(((), ())), NoContract, ("cancel", 0))

    def test_which_error_comes_first(self):
        market = Market(hub(3, 0, FREE))
        broken = ("table", ((0, 1), (2,)))
        twice = ("table", ((0, 1), (2,), (2,)))
        self.refused(market, NoHouse, ("choose", 3, twice))
        self.refused(market, NoHouse, ("choose", -1, broken))
        self.refused(market, InvalidWeb, ("choose", 0, twice))
        self.refused(market, NotSound, ("choose", 0, broken))
        self.refused(market, NoHouse, ("offer", 3, 3, 5))
        self.refused(market, NoHouse, ("offer", -1, -1, 5))
        self.refused(market, NoHouse, ("offer", 0, 9, 5))
        self.refused(market, InvalidWeb, ("offer", 0, 1, 5))

    def test_errors_leave_undo_and_redo_as_they_were(self):
        market = Market(line_web())
        market.do(("cancel", 0))
        market.do(("cancel", 1))
        market.do(("undo",))
        for error, deed in ((NoHouse, ("choose", 9, NOTHING)), (InvalidWeb, ("choose", 0, ("maker", -1, (), ()))),
                            (InvalidWeb, ("offer", 1, 0, 5)), (NoContract, ("cancel", 0))):
            self.refused(market, error, deed)
        market.do(("redo",))
        self.assertEqual(market.cancelled(), (0, 1))
        self.refused(market, NothingToRedo, ("redo",))
        market.do(("undo",))
        market.do(("undo",))
        self.refused(market, NothingToUndo, ("undo",))
        market.do(("redo",))
        market.do(("redo",))
        self.assertEqual(market.cancelled(), (0, 1))


class UndoTest(MarketCase):
    def test_nothing_to_undo(self):
        market = Market(line_web())
        self.refused(market, NothingToUndo, ("undo",))
        self.refused(market, NothingToRedo, ("redo",))
        market.do(("cancel", 0))
        self.refused(market, NothingToRedo, ("redo",))

    def test_to_the_beginning_and_on_again(self):
        market = Market(line_web())
        states = [(market.web(), market.cancelled())]
        deeds = (("offer", 0, 2, 7), ("choose", 2, ("sides", 1, (2, 1), 0, ())), ("cancel", 1), ("offer", 0, 1, 3),
                 ("cancel", 2), ("choose", 2, NOTHING))
        for deed in deeds:
            market.do(deed)
            states.append((market.web(), market.cancelled()))
        for _ in range(3):
            for state in states[-2::-1]:
                self.assertIsNone(market.do(("undo",)))
                self.assertEqual((market.web(), market.cancelled()), state)
            self.refused(market, NothingToUndo, ("undo",))
            for state in states[1:]:
                self.assertIsNone(market.do(("redo",)))
                self.assertEqual((market.web(), market.cancelled()), state)
            self.refused(market, NothingToRedo, ("redo",))
        self.assertEqual(market.journal(), deeds + ((("undo",),) * 6 + (("redo",),) * 6) * 3)

    def test_redo_behind_another_deed(self):
        market = Market(line_web())
        market.do(("cancel", 0))
        market.do(("cancel", 1))
        market.do(("undo",))
        market.do(("undo",))
        market.do(("offer", 0, 2, 1))
        self.refused(market, NothingToRedo, ("redo",))
        market.do(("undo",))
        market.do(("redo",))
        self.assertEqual(len(market.web()[1]), 3)
        self.refused(market, NothingToRedo, ("redo",))
        self.assertEqual(market.cancelled(), ())

    def test_the_number_of_an_offer_is_used_again(self):
        market = Market(line_web())
        self.assertEqual(market.do(("offer", 0, 2, 1)), 2)
        market.do(("cancel", 2))
        market.do(("undo",))
        market.do(("undo",))
        self.refused(market, NoContract, ("cancel", 2))
        self.assertEqual(market.do(("offer", 0, 1, 8)), 2)
        self.assertEqual((market.web()[1][2], market.cancelled()), ((0, 1, 8), ()))
        market.do(("undo",))
        self.assertIsNone(market.do(("redo",)))
        self.assertEqual(market.web()[1][2], (0, 1, 8))


class LiveWebTest(MarketCase):
    def live(self, buys, sells, choice, cancelled):
        self.assertTrue(is_sound(hub(buys, sells, choice)))
        market = Market(hub(buys, sells, choice))
        for contract in cancelled:
            market.do(("cancel", contract))
        self.assertEqual(market.web(), hub(buys, sells, choice))
        live = market.live_web()
        self.assertIsNone(check_web(live))
        self.assertEqual(live[1], market.web()[1])
        return live[0][0][1]

    def test_all_kinds(self):
        for choice, expected in (
            (("maker", 2, (3, 1, 2), (5, 4)), ("maker", 2, (3, 2), (5,))),
            (("sides", 3, (1, 0), 4, (4,)), ("sides", 3, (0,), 4, ())),
            (("table", ((0, 4), (0, 5), (1, 4), (1, 5))), ("table", ((0, 5),))),
            (("trader", 2, -1, (0, 1, 2), (4, 5)), ("trader", 2, -1, (0, 2), (5,))),
            (("split", ()), ("split", ())),
        ):
            with self.subTest(choice):
                self.assertEqual(self.live(4, 2, choice, (1, 4)), expected)
        self.assertEqual(self.live(2, 1, ("table", ((0, 2), (1, 2))), (0,)), ("table", ((1, 2),)))
        self.assertEqual(self.live(2, 1, ("table", ((0, 2), (1, 2))), (2,)), ("table", ()))

    def test_groups(self):
        groups = (((0, 1, 2), 2), ((0, 1), 1), ((1,), 0), ((0,), 4))
        choice = ("caps", (2, 1, 0), groups, (3, 4), (((3,), 1), ((4,), 1), ((3, 4), 1)))
        self.assertEqual(self.live(3, 2, choice, (1, 4)), (
            "caps", (2, 0), (((0, 2), 2), ((0,), 1), ((0,), 4)), (3,), (((3,), 1), ((3,), 1))))
        self.assertEqual(self.live(3, 2, choice, (0, 1, 2, 3, 4)), ("caps", (), (), (), ()))

    def test_parts(self):
        parts = (("maker", 1, (0,), (4,)), ("caps", (2, 1), (((1,), 1), ((1, 2), 1)), (), ()), ("table", ((3,),)),
                 ("table", ((5,),)))
        expected = (("maker", 1, (), (4,)), ("caps", (2,), (((2,), 1),), (), ()), ("table", ()), ("table", ((5,),)))
        self.assertEqual(self.live(4, 2, ("split", parts), (0, 1, 3)), ("split", expected))

    def test_new_contracts_come_back_by_undo(self):
        market = Market(line_web())
        market.do(("cancel", 0))
        self.assertNotEqual(market.live_web(), line_web())
        market.do(("undo",))
        self.assertEqual(market.live_web(), line_web())

    def test_houses_choose_without_cancelled_contracts(self):
        for seed in range(30):
            for web in (random_web(seed, 4, 6), random_web(seed, 4, 6, (KINDS[seed % 6],)), busy_web(seed, 4, 6)):
                rng = random.Random(seed)
                market = Market(web)
                for contract in rng.sample(range(6), rng.randint(1, 4)):
                    market.do(("cancel", contract))
                gone = market.cancelled()
                live = market.live_web()
                self.assertTrue(is_sound(live))
                for house in range(4):
                    for offered in brute.all_sets(range(6)):
                        left = tuple(c for c in offered if c not in gone)
                        self.assertEqual(choose(live, house, offered), choose(web, house, left))
                self.assertEqual(market.best_for_buyers(), network_of(best_for_buyers(live)))
                self.assertEqual(market.best_for_sellers(), network_of(best_for_sellers(live)))
                for network in brute.all_sets(range(6)):
                    found = market.verdict(network)
                    self.assertEqual(found, verdict(live, network))
                    if set(network) & set(gone):
                        self.assertEqual(found[0], "drops")


class JournalTest(MarketCase):
    def test_only_deeds_that_were_carried_out(self):
        market = Market(line_web())
        deeds = (("cancel", 1), ("undo",), ("redo",), ("offer", 0, 2, 7), ("choose", 0, NOTHING), ("undo",))
        for deed in deeds:
            self.refused(market, NoContract, ("cancel", 5))
            self.refused(market, NoHouse, ("choose", 5, NOTHING))
            market.do(deed)
        self.assertEqual(market.journal(), deeds)

    def test_replayed(self):
        deeds = [("cancel", 1), ("undo",), ("offer", 0, 2, 7), ("choose", 0, NOTHING), ("undo",), ("redo",)]
        market = Market(line_web())
        for many, deed in enumerate(deeds):
            market.do(deed)
            for journal in (market.journal(), list(market.journal()), deeds[:many + 1]):
                again = replayed(line_web(), journal)
                self.assertIsInstance(again, Market)
                self.assertEqual(shown(again), shown(market))
        self.assertEqual(shown(replayed(line_web(), ())), shown(Market(line_web())))

    def test_the_replayed_market_goes_on_alone(self):
        journal = [("cancel", 0), ("undo",)]
        market = replayed(line_web(), journal)
        journal.append(("cancel", 1))
        self.assertEqual(market.journal(), (("cancel", 0), ("undo",)))
        market.do(("redo",))
        self.assertEqual(market.cancelled(), (0,))
        self.assertEqual(len(journal), 3)

    def test_a_journal_that_fails(self):
        good = (("cancel", 1), ("offer", 0, 2, 7))
        for error, deed in ((NoHouse, ("choose", 3, NOTHING)), (InvalidWeb, ("offer", 1, 0, 5)),
                            (NotSound, ("choose", 0, ("table", ((0, 2),)))), (NoContract, ("cancel", 1)),
                            (NothingToRedo, ("redo",))):
            for journal in (good + (deed, ("undo",)), list(good) + [deed, ("cancel", 77)]):
                with self.assertRaises(error):
                    replayed(line_web(), journal)
        with self.assertRaises(NothingToUndo):
            replayed(line_web(), [("undo",), ("cancel", 77)])


class ManyDeedsTest(unittest.TestCase):
    def some_deed(self, rng, market):
        houses, contracts = market.web()
        kind = rng.choice(("choose", "offer", "cancel", "undo", "undo", "redo", "redo"))
        if kind == "offer":
            return (kind, rng.randint(0, len(houses)), rng.randint(-1, len(houses) - 1), rng.randint(-3, 9))
        if kind == "cancel":
            return (kind, rng.randint(-1, len(contracts)))
        if kind == "choose":
            house = rng.randrange(len(houses))
            buys, sells = list(buys_of(market.web(), house)), list(sells_of(market.web(), house))
            return (kind, house, any_choice(rng, buys, sells))
        return (kind,)

    def effective(self, journal):
        """The deeds that are not undone, and those that can be redone."""
        done, undone = [], []
        for deed in journal:
            if deed == ("undo",):
                undone.append(done.pop())
            elif deed == ("redo",):
                done.append(undone.pop())
            else:
                done.append(deed)
                undone = []
        return done, undone

    def test_against_a_market_of_the_deeds_that_are_left(self):
        errors = set()
        for seed in range(12):
            rng = random.Random(seed)
            web = random_web(seed, 4, 3)
            market = Market(web)
            for _ in range(200):
                deed = self.some_deed(rng, market)
                before, copied = shown(market), copy.deepcopy(deed)
                done, undone = self.effective(market.journal())
                try:
                    result = market.do(deed)
                except ContractError as error:
                    errors.add(type(error))
                    self.assertEqual(shown(market), before)
                    self.assertEqual(deed == ("undo",) and done == [], isinstance(error, NothingToUndo))
                    self.assertEqual(deed == ("redo",) and undone == [], isinstance(error, NothingToRedo))
                    continue
                self.assertEqual(deed, copied)
                self.assertEqual(result, len(before[0][1]) if deed[0] == "offer" else None)
                self.assertEqual(market.journal(), before[3] + (deed,))
                left = replayed(web, self.effective(market.journal())[0])
                self.assertEqual((market.web(), market.cancelled()), (left.web(), left.cancelled()))
                self.assertTrue(is_sound(market.web()))
            self.assertEqual(shown(replayed(web, market.journal())), shown(market))
        self.assertEqual(errors, {NoHouse, InvalidWeb, NotSound, NoContract, NothingToUndo, NothingToRedo})

    def test_the_bounds(self):
        web = layered_web(3, 10, 3, 60)
        market = Market(web)
        for number in range(60):
            market.do(("cancel", 59 - number) if number % 3 else ("choose", number % 30, web[0][number % 30][1]))
            market.do(("undo",))
            market.do(("redo",))
        for stand in (best_for_buyers(market.live_web()), best_for_sellers(market.live_web())):
            self.assertFalse(set(network_of(stand)) & set(market.cancelled()))
            self.assertTrue(judge(market.live_web(), network_of(stand), stand[0]))
        self.assertEqual(len(market.journal()), 180)
        self.assertEqual(shown(replayed(web, list(market.journal()))), shown(market))

    def test_what_was_returned_stays(self):
        market = Market(line_web())
        before = shown(market)
        kept = copy.deepcopy(before)
        for deed in (("cancel", 0), ("offer", 0, 2, 1), ("choose", 0, NOTHING), ("undo",)):
            market.do(deed)
        self.assertEqual(before, kept)


if __name__ == "__main__":
    unittest.main()
