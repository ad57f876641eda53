"""Point [41] and the interface of nochaingains.stores."""

import copy
import random
import unittest

from nochaingains.choices import is_sound
from nochaingains.errors import (
    ContractError, InvalidWeb, NoContract, NoHouse, NothingToRedo, NothingToUndo, NotSound,
)
from nochaingains.markets import Market, replayed
from nochaingains.stores import Store, recovered
from nochaingains.webs import buys_of, sells_of
from tests.samples import FREE, any_choice, hub, layered_web, line_web, random_web, two_rests

NOTHING = ("sides", 0, (), 0, ())
HUGE = 10 ** 5000


def shown(store):
    return (store.market_web(), store.cancelled(), store.disk())


def reach(store):
    """All states to which "undo" and "redo" lead, shown on a store that is recovered from the disk."""
    copied = recovered(store.disk())
    states = []
    for deed in (("undo",), ("redo",)):
        while True:
            try:
                copied.do(deed)
            except (NothingToUndo, NothingToRedo):
                break
            states.append((copied.market_web(), copied.cancelled()))
    return states


class StoreCase(unittest.TestCase):
    def refused(self, store, error, deed):
        before = shown(store) + (store.writes(),)
        with self.assertRaises(error) as caught:
            store.do(deed)
        self.assertIs(type(caught.exception), error)
        self.assertEqual(shown(store) + (store.writes(),), before)


class DiskTest(StoreCase):
    def test_a_new_store(self):
        for web in (line_web(), ((), ()), ((("a", FREE),), ())):
            store = Store(web)
            self.assertEqual(shown(store), (web, (), ((web, ()), ())))
            self.assertEqual(store.writes(), ())

    def test_each_deed_is_written(self):
        web = line_web()
        base = (web, ())
        store = Store(web)
        deeds = (("offer", 0, 2, 7), ("cancel", 1), ("undo",), ("redo",), ("choose", 0, NOTHING), ("undo",))
        for many, deed in enumerate(deeds, start=1):
            result = store.do(deed)
            self.assertEqual(result, 2 if deed[0] == "offer" else None)
            self.assertEqual(store.disk(), (base, deeds[:many]))
            self.assertEqual(store.writes(), tuple((base, deeds[:k]) for k in range(1, many + 1)))
        self.assertEqual(store.cancelled(), (1,))
        self.assertEqual(store.market_web(), (web[0], web[1] + ((0, 2, 7),)))

    def test_deeds_that_raise_errors_write_nothing(self):
        store = Store(hub(3, 0, FREE))
        self.refused(store, NothingToUndo, ("undo",))
        self.refused(store, NothingToRedo, ("redo",))
        store.do(("cancel", 0))
        for error, deed in (
            (NoHouse, ("choose", 3, NOTHING)), (InvalidWeb, ("choose", 0, ("maker", -1, (), ()))),
            (NotSound, ("choose", 0, ("table", ((0, 1), (2,))))), (NoHouse, ("offer", HUGE, 0, 5)),
            (InvalidWeb, ("offer", 0, 1, 5)), (NoContract, ("cancel", 0)), (NoContract, ("cancel", -HUGE)),
            (NothingToRedo, ("redo",)),
        ):
            self.refused(store, error, deed)
        store.do(("undo",))
        self.refused(store, NoContract, ("cancel", 3))
        # What raised errors has not kept the deed from being redone.
        store.do(("redo",))
        self.assertEqual(store.cancelled(), (0,))
        self.assertEqual(store.disk()[1], (("cancel", 0), ("undo",), ("redo",)))

    def test_stores_share_nothing(self):
        one, other = Store(line_web()), Store(line_web())
        writes = one.writes()
        disk = one.disk()
        one.do(("cancel", 0))
        again = recovered(one.disk())
        again.do(("cancel", 1))
        self.assertEqual((writes, disk), ((), ((line_web(), ()), ())))
        self.assertEqual(shown(other), (line_web(), (), disk))
        self.assertEqual((one.cancelled(), again.cancelled()), ((0,), (0, 1)))
        self.assertEqual(one.disk(), ((line_web(), ()), (("cancel", 0),)))


class CheckpointTest(StoreCase):
    def test_of_a_new_store(self):
        store = Store(line_web())
        self.assertIsNone(store.checkpoint())
        self.assertEqual(store.disk(), ((line_web(), ()), ()))
        self.assertEqual(store.writes(), (store.disk(),))

    def test_with_cancelled_contracts_and_one_right_behind_another(self):
        store = Store(two_rests())
        store.do(("cancel", 2))
        store.do(("cancel", 0))
        store.do(("offer", 1, 3, 4))
        store.checkpoint()
        web = (two_rests()[0], two_rests()[1] + ((1, 3, 4),))
        base = (web, (0, 2))
        self.assertEqual(store.disk(), (base, ()))
        self.assertEqual((store.market_web(), store.cancelled()), base)
        store.checkpoint()
        self.assertEqual(store.writes()[3:], ((base, ()), (base, ())))
        self.refused(store, NoContract, ("cancel", 2))
        store.do(("cancel", 1))
        self.assertEqual(store.disk(), (base, (("cancel", 1),)))
        self.assertEqual(store.cancelled(), (0, 1, 2))
        self.assertEqual(store.do(("offer", 0, 2, 0)), 5)

    def test_undo_before_and_behind_a_checkpoint(self):
        store = Store(line_web())
        store.do(("cancel", 0))
        store.do(("cancel", 1))
        store.do(("undo",))
        store.checkpoint()
        self.refused(store, NothingToUndo, ("undo",))
        self.refused(store, NothingToRedo, ("redo",))
        self.assertEqual(store.cancelled(), (0,))
        store.do(("offer", 0, 2, 7))
        store.do(("undo",))
        self.refused(store, NothingToUndo, ("undo",))
        self.assertEqual(store.disk(), ((line_web(), (0,)), (("offer", 0, 2, 7), ("undo",))))
        store.do(("redo",))
        store.do(("undo",))
        store.checkpoint()
        self.refused(store, NothingToRedo, ("redo",))
        self.assertEqual(store.disk(), ((line_web(), (0,)), ()))

    def test_choices_are_in_the_base(self):
        store = Store(line_web())
        store.do(("choose", 1, ("table", ((0, 1),))))
        store.checkpoint()
        web = store.market_web()
        self.assertEqual(web[0][1], ("mill", ("table", ((0, 1),))))
        self.assertEqual(store.disk(), ((web, ()), ()))


class RecoveredTest(StoreCase):
    def test_new_writes_begin(self):
        store = Store(line_web())
        store.do(("cancel", 0))
        again = recovered(store.disk())
        self.assertIsInstance(again, Store)
        self.assertEqual(shown(again), shown(store))
        self.assertEqual(again.writes(), ())
        again.do(("undo",))
        disk = ((line_web(), ()), (("cancel", 0), ("undo",)))
        self.assertEqual((again.disk(), again.writes()), (disk, (disk,)))
        self.assertEqual(len(store.writes()), 1)

    def test_undo_and_redo_of_what_was_on_the_disk(self):
        disk = ((line_web(), (1,)), (("cancel", 0), ("offer", 0, 2, 7), ("undo",)))
        store = recovered(disk)
        self.assertEqual((store.market_web(), store.cancelled()), (line_web(), (0, 1)))
        store.do(("redo",))
        self.assertEqual(len(store.market_web()[1]), 3)
        store.do(("undo",))
        store.do(("undo",))
        self.assertEqual(store.cancelled(), (1,))
        self.refused(store, NothingToUndo, ("undo",))
        self.assertEqual(store.disk(), (disk[0], disk[1] + (("redo",), ("undo",), ("undo",))))

    def test_a_base_with_cancelled_contracts(self):
        store = recovered(((two_rests(), (0, 3)), ()))
        self.assertEqual((store.market_web(), store.cancelled()), (two_rests(), (0, 3)))
        self.refused(store, NothingToUndo, ("undo",))
        self.refused(store, NoContract, ("cancel", 3))
        store.checkpoint()
        self.assertEqual(store.disk(), ((two_rests(), (0, 3)), ()))


class CutOffTest(StoreCase):
    def some_deed(self, rng, store):
        houses, contracts = store.market_web()
        kind = rng.choice(("choose", "offer", "cancel", "undo", "redo", "checkpoint"))
        if kind == "offer":
            return (kind, rng.randrange(len(houses)), rng.randrange(len(houses)), rng.randint(-3, 9))
        if kind == "cancel":
            return (kind, rng.randint(-1, len(contracts)))
        if kind == "choose":
            house = rng.randint(0, len(houses))
            buys, sells = list(buys_of(store.market_web(), house)), list(sells_of(store.market_web(), house))
            return (kind, house, any_choice(rng, buys, sells))
        return (kind,)

    def run_deeds(self, store, rng, many):
        """Some deeds and checkpoints; the store as it was behind each write."""
        seen = []
        for _ in range(many):
            deed = self.some_deed(rng, store)
            before, writes, copied = shown(store), store.writes(), copy.deepcopy(deed)
            try:
                result = store.checkpoint() if deed == ("checkpoint",) else store.do(deed)
            except ContractError:
                self.assertEqual((shown(store), store.writes()), (before, writes))
                continue
            self.assertEqual(deed, copied)
            self.assertEqual(result, len(before[0][1]) if deed[0] == "offer" else None)
            self.assertEqual(store.writes(), writes + (store.disk(),))
            if deed == ("checkpoint",):
                self.assertEqual(store.disk(), (before[:2], ()))
            else:
                self.assertEqual(store.disk(), (before[2][0], before[2][1] + (deed,)))
            seen.append((shown(store), reach(store)))
        return seen

    def test_cut_off_behind_each_write(self):
        for seed in range(8):
            rng = random.Random(seed)
            store = Store(random_web(seed, 4, 4))
            seen = self.run_deeds(store, rng, 40)
            self.assertEqual(len(store.writes()), len(seen))
            for disk, (was, reached) in zip(store.writes(), seen):
                again = recovered(disk)
                self.assertEqual((shown(again), again.writes()), (was, ()))
                self.assertEqual(reach(again), reached)
                # It goes on from its disk, is cut off again and goes on once more.
                self.run_deeds(again, random.Random(seed + 1), 3)
                for later in again.writes():
                    third = recovered(later)
                    self.assertEqual(third.disk(), later)
                    self.assertEqual(third.writes(), ())
                self.assertEqual(shown(recovered(again.disk())), shown(again))
            self.assertTrue(is_sound(store.market_web()))

    def test_the_market_behind_the_last_checkpoint(self):
        for seed in range(6):
            rng = random.Random(seed)
            store = Store(random_web(seed, 4, 4))
            self.run_deeds(store, rng, 30)
            (web, cancelled), deeds = store.disk()
            if cancelled == ():
                market = replayed(web, deeds)
                self.assertEqual((market.web(), market.cancelled()), (store.market_web(), store.cancelled()))
            market = Market(web)
            for contract in cancelled:
                market.do(("cancel", contract))
            for deed in deeds:
                market.do(deed)
            self.assertEqual((market.web(), market.cancelled()), (store.market_web(), store.cancelled()))

    def test_the_bounds(self):
        web = layered_web(4, 10, 3, 60)
        store = Store(web)
        for number in range(200):
            kind = number % 4
            store.do((("cancel", number * 3 % 60), ("undo",), ("redo",), ("undo",))[kind] if kind or number < 80
                     else ("choose", number % 30, web[0][number % 30][1]))
        self.assertEqual(len(store.writes()), 200)
        self.assertEqual(store.disk()[0], (web, ()))
        self.assertEqual(shown(recovered(store.disk())), shown(store))
        kept = copy.deepcopy(store.writes())
        store.checkpoint()
        self.assertEqual(store.writes()[:-1], kept)


if __name__ == "__main__":
    unittest.main()
