"""Points [6], [7], [10] to [13] and the interface of nochaingains.choices."""

import unittest

from nochaingains.choices import choose, is_sound, is_steady, least_break, least_unsteady, mentioned
from nochaingains.webs import check_web
from tests.brute import all_sets, first_break, first_unsteady, out_of, own
from tests.samples import additive_table, hub, line_web, random_web
from random import Random

HUGE = 10 ** 5000


class ChooseTest(unittest.TestCase):
    def chosen(self, web, offered, expected):
        check_web(web)
        with self.subTest(offered):
            self.assertEqual(choose(web, 0, offered), expected)

    def test_maker(self):
        web = hub(3, 3, ("maker", 2, (2, 0), (5, 4, 3)))
        self.chosen(web, (), ())
        self.chosen(web, (0, 1, 2), ())
        self.chosen(web, (3, 4, 5), ())
        self.chosen(web, (0, 3), (0, 3))
        self.chosen(web, (1, 3), ())
        self.chosen(web, (0, 1, 2, 3), (2, 3))
        self.chosen(web, (0, 3, 4, 5), (0, 5))
        self.chosen(web, (0, 1, 2, 3, 4, 5), (0, 2, 4, 5))

    def test_maker_rooms(self):
        self.chosen(hub(2, 2, ("maker", 0, (0, 1), (2, 3))), (0, 1, 2, 3), ())
        self.chosen(hub(2, 2, ("maker", 1, (1, 0), (3, 2))), (0, 1, 2, 3), (1, 3))
        self.chosen(hub(2, 2, ("maker", HUGE, (1, 0), (3, 2))), (0, 1, 2), (1, 2))

    def test_sides(self):
        web = hub(3, 3, ("sides", 1, (2, 0), 2, (5, 4, 3)))
        self.chosen(web, (), ())
        self.chosen(web, (0, 1), (0,))
        self.chosen(web, (1,), ())
        self.chosen(web, (0, 2, 3), (2, 3))
        self.chosen(web, (0, 1, 2, 3, 4, 5), (2, 4, 5))
        self.chosen(web, (3, 4), (3, 4))
        self.chosen(hub(2, 1, ("sides", 0, (0, 1), 0, (2,))), (0, 1, 2), ())
        self.chosen(hub(2, 1, ("sides", HUGE, (0, 1), HUGE, (2,))), (0, 1, 2), (0, 1, 2))

    def test_table(self):
        web = hub(2, 2, ("table", ((0, 2, 3), (1, 2), (3,), (0,))))
        self.chosen(web, (), ())
        self.chosen(web, (0, 1, 2, 3), (0, 2, 3))
        self.chosen(web, (0, 1, 2), (1, 2))
        self.chosen(web, (0, 2), (0,))
        self.chosen(web, (0, 3), (3,))
        self.chosen(web, (1,), ())
        self.chosen(hub(2, 2, ("table", ())), (0, 1, 2, 3), ())

    def test_trader(self):
        prices = (5, 4, 5, 9, 7, 7)
        web = hub(3, 3, ("trader", 5, 1, (0, 1, 2), (3, 4, 5)), prices)
        self.chosen(web, (), ())
        self.chosen(web, (0, 1, 2, 3, 4, 5), (0, 1, 2, 3, 4, 5))
        self.chosen(web, (0, 2, 4, 5), (0, 2, 4, 5))
        self.chosen(web, (0, 2, 5), (0, 5))
        self.chosen(web, (0, 1, 3), (1, 3))
        self.chosen(web, (0, 1), ())

    def test_trader_costs(self):
        for cost, expected in ((1, (0, 1)), (2, ()), (3, ()), (-HUGE, (0, 1)), (HUGE, ())):
            self.chosen(hub(1, 1, ("trader", 1, cost, (0,), (1,)), (5, 7)), (0, 1), expected)
        self.chosen(hub(1, 1, ("trader", 1, -3, (0,), (1,)), (5, 3)), (0, 1), (0, 1))
        self.chosen(hub(1, 1, ("trader", 1, -2, (0,), (1,)), (5, 3)), (0, 1), ())

    def test_trader_equal_prices(self):
        web = hub(3, 3, ("trader", 2, 0, (0, 1, 2), (3, 4, 5)), (5, 5, 5, 6, 6, 6))
        self.chosen(web, (0, 1, 2, 3, 4, 5), (0, 1, 3, 4))
        self.chosen(web, (1, 2, 3, 4, 5), (1, 2, 3, 4))
        self.chosen(web, (2, 4, 5), (2, 4))

    def test_trader_stops_where_profit_stops(self):
        web = hub(3, 3, ("trader", 3, 0, (0, 1, 2), (3, 4, 5)), (1, 5, 6, 9, 5, 2))
        self.chosen(web, (0, 1, 2, 3, 4, 5), (0, 3))
        self.chosen(web, (1, 2, 4, 5), ())

    def test_trader_rooms_and_lists(self):
        web = hub(2, 2, ("trader", 0, -9, (0, 1), (2, 3)))
        self.chosen(web, (0, 1, 2, 3), ())
        web = hub(2, 2, ("trader", HUGE, -9, (1,), (2, 3)))
        self.chosen(web, (0, 1, 2, 3), (1, 2))

    def test_caps(self):
        groups = (((0, 1, 2, 3), 2), ((0, 1), 1), ((0, 1), 3), ((2,), 0))
        web = hub(4, 2, ("caps", (1, 0, 2, 3), groups, (5, 4), (((4, 5), 1),)))
        self.chosen(web, (), ())
        self.chosen(web, (0, 1, 2, 3, 4, 5), (1, 3, 5))
        self.chosen(web, (0, 2, 4), (0, 4))
        self.chosen(web, (2,), ())
        self.chosen(web, (0, 3), (0, 3))

    def test_caps_without_groups_and_with_others_in_groups(self):
        self.chosen(hub(2, 1, ("caps", (0, 1), (), (2,), ())), (0, 1, 2), (0, 1, 2))
        self.chosen(hub(2, 1, ("caps", (1,), (((0, 1), 1),), (), ())), (0, 1, 2), (1,))
        self.chosen(hub(2, 1, ("caps", (0, 1), (((0, 1), 0),), (2,), (((2,), HUGE),))), (0, 1, 2), (2,))

    def test_split(self):
        parts = (("maker", 1, (2,), (3,)), ("table", ((0, 1), (1,))), ("sides", 0, (), 1, (4,)))
        web = hub(3, 2, ("split", parts))
        self.chosen(web, (0, 1, 2, 3, 4), (0, 1, 2, 3, 4))
        self.chosen(web, (1, 2, 4), (1, 4))
        self.chosen(web, (0, 3), ())
        self.chosen(hub(3, 2, ("split", ())), (0, 1, 2, 3, 4), ())

    def test_contracts_of_others_do_not_count(self):
        web = line_web()
        self.assertEqual(choose(web, 0, (0, 1)), (0,))
        self.assertEqual(choose(web, 2, (0, 1)), (1,))
        self.assertEqual(choose(web, 2, (0,)), ())

    def test_by_the_words_of_the_document(self):
        for seed in range(120):
            web = random_web(seed, 5, 7, sound=False)
            for house in range(5):
                for offered in all_sets(range(7)):
                    self.assertEqual(choose(web, house, offered), out_of(web, house, offered))

    def test_what_is_left_out_plays_no_part(self):
        for seed in range(40):
            web = random_web(seed, 4, 6, sound=False)
            for house in range(4):
                for y in all_sets(own(web, house)):
                    chosen = choose(web, house, y)
                    for z in all_sets(y):
                        if set(chosen) <= set(z):
                            self.assertEqual(choose(web, house, z), chosen)


class MentionedTest(unittest.TestCase):
    def test_all_kinds(self):
        for choice, expected in (
            (("maker", 1, (4, 2), (9, 3)), (2, 3, 4, 9)),
            (("maker", 7, (), ()), ()),
            (("sides", 8, (4,), 9, (1,)), (1, 4)),
            (("table", ((5, 7), (1,), (1, 7))), (1, 5, 7)),
            (("table", ()), ()),
            (("trader", 8, 9, (2, 3), (1,)), (1, 2, 3)),
            (("caps", (4, 3), (((3, 5), 6),), (2,), (((1, 2), 7),)), (2, 3, 4)),
            (("split", ()), ()),
            (("split", (("table", ((5,), (2, 5))), ("maker", 6, (3,), (1,)), ("caps", (), (((8,), 1),), (0,), ()))),
             (0, 1, 2, 3, 5)),
        ):
            with self.subTest(choice):
                self.assertEqual(mentioned(choice), expected)


class BreaksTest(unittest.TestCase):
    def test_substitutes(self):
        self.assertEqual(least_break(hub(3, 0, ("table", ((0, 1), (2,)))), 0), ((0,), 1, 0))
        self.assertEqual(least_break(hub(0, 3, ("table", ((1, 2), (0,)))), 0), ((1,), 2, 1))

    def test_going_together(self):
        web = hub(2, 1, ("table", ((0,), (1, 2), (2,))))
        self.assertEqual(least_break(web, 0), ((2,), 0, 2))
        self.assertEqual(least_break(hub(1, 2, ("table", ((2,), (0,)))), 0), ((0,), 2, 0))

    def test_pairs_of_both_sides_hold_together(self):
        self.assertIsNone(least_break(hub(1, 1, ("table", ((0, 1),))), 0))
        self.assertIsNone(least_break(hub(2, 2, ("table", ((0, 2), (0, 3), (1, 2), (1, 3)))), 0))

    def test_fewer_contracts_go_first(self):
        web = hub(6, 0, ("table", ((0, 1, 2), (4, 5), (3,))))
        self.assertEqual(least_break(web, 0), ((4,), 5, 4))

    def test_break_in_the_last_part(self):
        parts = (("maker", 1, (0,), ()), ("table", ()), ("table", ((3, 4), (1,))), ("table", ((2, 5),)))
        self.assertEqual(least_break(hub(6, 0, ("split", parts)), 0), ((2,), 5, 2))
        self.assertFalse(is_sound(hub(6, 0, ("split", parts))))

    def test_unsteady(self):
        web = hub(1, 2, ("table", ((0, 1, 2),)))
        self.assertEqual(least_break(web, 0), ((0, 1), 2, 1))
        self.assertEqual(least_unsteady(web, 0), ((1, 2), 0))
        web = hub(2, 1, ("table", ((0, 1, 2),)))
        self.assertEqual(least_unsteady(web, 0), ((0, 1), 2))
        web = hub(2, 1, ("table", ((0,), (1, 2), (2,))))
        self.assertIsNone(least_unsteady(web, 0))
        web = hub(2, 0, ("table", ((0,), (1,))))
        self.assertIsNone(least_unsteady(web, 0))

    def test_sound_but_not_steady(self):
        web = hub(3, 0, ("table", ((0,), (1, 2), (1,), (2,))))
        self.assertIsNone(least_break(web, 0))
        self.assertEqual(least_unsteady(web, 0), ((1, 2), 0))
        self.assertTrue(is_sound(web))
        self.assertFalse(is_steady(web))
        inside = hub(4, 0, ("split", (("table", ((3,),)), ("table", ((0,), (1, 2), (1,), (2,))))))
        self.assertEqual(least_unsteady(inside, 0), ((1, 2), 0))
        self.assertFalse(is_steady(inside))

    def test_steady_but_not_sound(self):
        web = hub(2, 0, ("table", ((0, 1),)))
        self.assertEqual(least_break(web, 0), ((0,), 1, 0))
        self.assertIsNone(least_unsteady(web, 0))
        self.assertFalse(is_sound(web))
        self.assertFalse(is_steady(web))

    def test_by_the_words_of_the_document(self):
        for seed in range(150):
            web = random_web(seed, 4, 6, kinds=("table", "split", "table", "maker", "caps"), sound=False)
            breaks = [first_break(web, house) for house in range(4)]
            uneven = [first_unsteady(web, house) for house in range(4)]
            self.assertEqual([least_break(web, house) for house in range(4)], breaks)
            self.assertEqual([least_unsteady(web, house) for house in range(4)], uneven)
            self.assertEqual(is_sound(web), breaks == [None] * 4)
            self.assertEqual(is_steady(web), breaks == [None] * 4 and uneven == [None] * 4)

    def test_kinds_that_always_hold_together(self):
        for seed in range(80):
            web = random_web(seed, 3, 7, kinds=("maker", "sides", "trader", "caps", "split"), sound=False)
            web = (tuple((name, c) for name, c in web[0]), web[1])
            for house in range(3):
                if web[0][house][1][0] != "split":
                    self.assertIsNone(first_break(web, house))
                    self.assertIsNone(first_unsteady(web, house))
                self.assertEqual(least_break(web, house), first_break(web, house))

    def test_any_house_may_break_the_web(self):
        houses, contracts = hub(2, 2, ("maker", 1, (0, 1), (2, 3)))
        self.assertTrue(is_sound((houses, contracts)) and is_steady((houses, contracts)))
        bad = (houses[0], houses[1], ("shop", ("table", ((2, 3),))))
        self.assertFalse(is_sound((bad, contracts)))
        self.assertIsNone(least_break((bad, contracts), 0))
        self.assertEqual(least_break((bad, contracts), 2), ((2,), 3, 2))

    def test_empty_webs(self):
        for web in (((), ()), ((("a", ("table", ())),), ())):
            self.assertIs(is_sound(web), True)
            self.assertIs(is_steady(web), True)
        self.assertIsNone(least_break(((("a", ("split", ())),), ()), 0))

    def test_more_contracts_than_a_table_mentions(self):
        web = hub(30, 30, ("table", ((2, 40), (3, 40), (40, 59))))
        self.assertEqual(least_break(web, 0), ((40,), 59, 40))
        self.assertFalse(is_sound(web))

    def test_tables_that_mention_more_contracts(self):
        rng = Random(4)
        found = set()
        for _ in range(40):
            many = rng.randint(4, 14)
            rows = {tuple(sorted(rng.sample(range(10), rng.randint(1, 3)))) for _ in range(many)}
            web = hub(*rng.choice(((10, 0), (6, 4))), ("table", tuple(rng.sample(sorted(rows), len(rows)))))
            self.assertEqual(least_break(web, 0), first_break(web, 0))
            self.assertEqual(least_unsteady(web, 0), first_unsteady(web, 0))
            found.add(least_unsteady(web, 0) is None)
        self.assertEqual(found, {True, False})
        wide = additive_table(rng, list(range(18)), 2)
        self.assertIsNone(least_break(hub(30, 30, wide), 0))
        self.assertTrue(is_steady(hub(60, 0, ("table", tuple((k,) for k in range(60))))))
        self.assertEqual(least_break(hub(60, 0, ("table", tuple((k, k + 1) for k in range(59)))), 0), ((0,), 1, 0))

    def test_the_bounds(self):
        rows = additive_table(Random(1), list(range(9)), 3)
        self.assertTrue(is_steady(hub(9, 0, rows)))
        rows = tuple(row for row in all_sets(range(9)) if row)[:200]
        broken = hub(9, 0, ("table", rows[::-1][:9] + rows[:191]))
        self.assertEqual(least_break(broken, 0), first_break(broken, 0))
        parts = tuple(additive_table(Random(k), list(range(9 * k, 9 * k + 9)), 2) for k in range(6))
        self.assertTrue(is_sound(hub(54, 0, ("split", parts))))
        worse = parts[:5] + (("table", ((45, 53), (46,))),)
        self.assertFalse(is_sound(hub(54, 0, ("split", worse))))


if __name__ == "__main__":
    unittest.main()
