"""Points [4], [5], [6], [8] and the interface of nochaingains.webs."""

import unittest

from nochaingains.errors import InvalidWeb
from nochaingains.webs import buys_of, check_web, ring_of, sells_of
from tests.samples import FREE, KINDS, hub, line_web, random_web

HUGE = 10 ** 5000


def hub_is_right(choice):
    """Whether a house with the buys 0, 1, 2 and the sells 3, 4 may have the choice."""
    try:
        return check_web(hub(3, 2, choice)) is None
    except InvalidWeb:
        return False


class WebCase(unittest.TestCase):
    def right(self, web):
        self.assertIsNone(check_web(web))

    def wrong(self, web):
        with self.assertRaises(InvalidWeb):
            check_web(web)

    def right_choice(self, choice):
        with self.subTest(choice):
            self.assertTrue(hub_is_right(choice))
            self.assertTrue(hub_is_right(("split", (choice,))))

    def wrong_choice(self, choice):
        with self.subTest(choice):
            self.assertFalse(hub_is_right(choice))
            if choice[0] != "split":
                self.assertFalse(hub_is_right(("split", (choice,))))


class HousesAndContractsTest(WebCase):
    def test_empty_webs(self):
        self.right(((), ()))
        self.right(((("a", FREE),), ()))

    def test_contract_without_houses(self):
        self.wrong(((), ((0, 1, 5),)))

    def test_random_webs_are_right(self):
        for seed in range(30):
            self.right(random_web(seed, sound=False))

    def test_names(self):
        for name in ("a", "z", "mill", "house", "contract", "buys", "x" * 500):
            self.right(((("b", FREE), (name, FREE)), ()))
        for name in ("", "A", "Mill", "mi ll", "mill ", "m1", "m-l", "m_l", "mill\n", "`", "{", "@", "[", "0", "\t"):
            with self.subTest(name):
                self.wrong(((("b", FREE), (name, FREE)), ()))

    def test_names_are_different(self):
        self.wrong(((("a", FREE), ("b", FREE), ("a", FREE)), ()))

    def test_numbers_of_houses(self):
        houses = (("a", FREE), ("b", FREE))
        self.right((houses, ((0, 1, 5), (0, 1, 5))))
        for seller, buyer in ((0, 2), (2, 0), (-1, 0), (0, -1), (HUGE, 0), (0, -HUGE), (1, 1), (0, 0)):
            with self.subTest(seller=len(bin(seller)), buyer=len(bin(buyer))):
                self.wrong((houses, ((0, 1, 5), (seller, buyer, 5))))

    def test_prices_may_be_any(self):
        houses = (("a", FREE), ("b", FREE))
        self.right((houses, ((0, 1, HUGE), (0, 1, -HUGE), (0, 1, 0))))

    def test_buys_and_sells(self):
        contracts = ((1, 0, 5), (0, 2, 5), (1, 0, 3), (1, 2, 5), (0, 2, 4))
        web = ((("a", FREE), ("b", FREE), ("c", FREE), ("d", FREE)), contracts)
        self.assertEqual([buys_of(web, h) for h in range(4)], [(0, 2), (), (1, 3, 4), ()])
        self.assertEqual([sells_of(web, h) for h in range(4)], [(1, 4), (0, 2, 3), (), ()])


class RingsTest(WebCase):
    def web(self, many, *pairs):
        names = "abcdefghijklmnopqrstuvwxyz"
        return (tuple((names[k], FREE) for k in range(many)), tuple((s, b, 5) for s, b in pairs))

    def check_ring(self, web):
        ring = ring_of(web)
        self.assertIsInstance(ring, tuple)
        self.assertEqual(len(set(ring)), len(ring))
        for one, other in zip(ring, ring[1:] + ring[:1]):
            self.assertEqual(web[1][one][1], web[1][other][0])
        self.wrong(web)

    def test_no_ring(self):
        for web in (self.web(0), self.web(2), self.web(2, (0, 1), (0, 1)), self.web(3, (2, 1), (1, 0), (2, 0)),
                    self.web(4, (0, 1), (0, 2), (1, 3), (2, 3)), line_web()):
            self.assertIsNone(ring_of(web))
            self.right(web)

    def test_rings(self):
        self.check_ring(self.web(2, (0, 1), (1, 0)))
        self.check_ring(self.web(3, (0, 1), (1, 2), (2, 0)))
        self.check_ring(self.web(3, (2, 1), (1, 0), (0, 2)))

    def test_ring_with_ways_in_and_out(self):
        self.check_ring(self.web(6, (0, 1), (1, 2), (2, 3), (3, 1), (3, 4), (4, 5), (0, 5)))
        self.check_ring(self.web(6, (5, 4), (4, 3), (2, 1), (1, 0), (3, 2), (2, 4), (1, 3)))

    def test_sales_into_a_ring_and_out_of_it(self):
        self.check_ring(self.web(3, (1, 2), (2, 1), (0, 1), (0, 2)))
        self.check_ring(self.web(3, (0, 1), (0, 2), (1, 2), (2, 1)))
        self.check_ring(self.web(4, (3, 1), (1, 2), (2, 1), (1, 0), (2, 0), (3, 0), (3, 2)))

    def test_ring_apart_from_the_first_house(self):
        self.check_ring(self.web(5, (0, 1), (2, 3), (3, 4), (4, 2)))

    def test_long_ring(self):
        many = 3000
        houses = tuple(("a" * (k + 1), FREE) for k in range(many))
        rows = tuple((k, k + 1, 0) for k in range(many - 1))
        self.assertIsNone(ring_of((houses, rows)))
        ring = ring_of((houses, rows + ((many - 1, 0, 0),)))
        self.assertEqual(sorted(ring), list(range(many)))


class ChoicesOfWebsTest(WebCase):
    def test_maker(self):
        for choice in (("maker", 0, (), ()), ("maker", HUGE, (2, 0, 1), (4, 3)), ("maker", 1, (2,), ())):
            self.right_choice(choice)
        for choice in (("maker", -1, (), ()), ("maker", 1, (0, 0), ()), ("maker", 1, (), (3, 4, 3)),
                       ("maker", 1, (3,), ()), ("maker", 1, (), (0,)), ("maker", 1, (5,), ()),
                       ("maker", 1, (-1,), ()), ("maker", 1, (), (HUGE,)), ("maker", -HUGE, (0,), (3,))):
            self.wrong_choice(choice)

    def test_sides(self):
        for choice in (("sides", 0, (), 0, ()), ("sides", 5, (2, 0), HUGE, (4,))):
            self.right_choice(choice)
        for choice in (("sides", -1, (), 0, ()), ("sides", 0, (), -1, ()), ("sides", 1, (1, 1), 1, ()),
                       ("sides", 1, (), 1, (4, 4)), ("sides", 1, (4,), 1, ()), ("sides", 1, (), 1, (2,)),
                       ("sides", 1, (9,), 1, ()), ("sides", 1, (), 1, (-3,))):
            self.wrong_choice(choice)

    def test_table(self):
        for rows in ((), ((0,),), ((0, 1, 2, 3, 4),), ((3, 4), (0, 3), (0,), (0, 1)),):
            self.right_choice(("table", rows))
        for rows in (((),), ((0,), ()), ((1, 0),), ((0, 0),), ((0, 5),), ((-1,),), ((0,), (1,), (0,)),
                     ((HUGE,),), ((0, 3), (3, 4), (0, 3))):
            self.wrong_choice(("table", rows))

    def test_trader(self):
        for choice in (("trader", 0, -5, (), ()), ("trader", HUGE, -HUGE, (0, 1, 2), (3, 4)),
                       ("trader", 1, 0, (0, 2), (4,))):
            self.right_choice(choice)
        for choice in (("trader", -1, 0, (), ()), ("trader", 1, 0, (1, 0), ()), ("trader", 1, 0, (), (4, 3)),
                       ("trader", 1, 0, (1, 1), ()), ("trader", 1, 0, (), (3, 3)), ("trader", 1, 0, (3,), ()),
                       ("trader", 1, 0, (), (2,)), ("trader", 1, 0, (7,), ()), ("trader", 1, 0, (-2,), ())):
            self.wrong_choice(choice)

    def test_caps(self):
        near = (((0, 1, 2), 2), ((0, 1), 1), ((2,), 0), ((0, 1), 5))
        for choice in (("caps", (), (), (), ()), ("caps", (2, 0, 1), near, (4, 3), (((3, 4), HUGE),)),
                       ("caps", (), near, (), (((3,), 1), ((4,), 0))),
                       ("caps", (0,), (((1,), 1), ((1,), 1)), (3,), ())):
            self.right_choice(choice)
        for choice in (("caps", (0, 0), (), (), ()), ("caps", (3,), (), (), ()), ("caps", (), (), (4, 4), ()),
                       ("caps", (), (), (0,), ()), ("caps", (5,), (), (), ())):
            self.wrong_choice(choice)

    def test_groups(self):
        for groups in ((((), 1),), (((1, 0), 1),), (((0, 0), 1),), (((0,), -1),), (((3,), 1),), (((5,), 1),),
                       (((0, 1), 1), ((1, 2), 1)), (((1, 2), 1), ((0, 1, 2), 1), ((0, 2), 1)),
                       (((0,), 1), ((0, 1), 2), ((0, 2), 2)), (((-1,), 1),), (((0, HUGE), 1),)):
            self.wrong_choice(("caps", (0, 1), groups, (3,), ()))
        for groups in ((((), 1),), (((4, 3), 1),), (((3, 4), -1),), (((0,), 1),), (((3, 3), 1),)):
            self.wrong_choice(("caps", (0, 1), (), (3,), groups))

    def test_groups_by_trying_pairs(self):
        sets = [tuple(c for c in range(3) if mask >> c & 1) for mask in range(1, 8)]
        for a in sets:
            for b in sets:
                for c in sets:
                    pairs = ((a, b), (a, c), (b, c))
                    fits = all(not set(x) & set(y) or set(x) <= set(y) or set(y) <= set(x) for x, y in pairs)
                    choice = ("caps", (0, 1, 2), ((a, 1), (b, 1), (c, 1)), (), ())
                    self.assertEqual(hub_is_right(choice), fits)

    def test_split(self):
        maker = ("maker", 1, (0,), (3,))
        for parts in ((), (maker,), (maker, ("table", ((1, 4), (1,)))), (maker, ("sides", 1, (1, 2), 1, (4,))),
                      (("table", ()), maker, ("table", ())), (("caps", (1,), (((0, 1), 1),), (), ()), maker)):
            self.assertTrue(hub_is_right(("split", parts)))
        for parts in ((maker, maker), (maker, ("table", ((0,),))), (maker, ("trader", 1, 0, (), (3,))),
                      (("split", ()),), (maker, ("split", (("table", ()),))), (("split", (("split", ()),)),),
                      (("table", ((4,),)), ("sides", 1, (), 1, (4,))), (maker, ("maker", -1, (), ())),
                      (("caps", (1,), (), (), ()), ("caps", (2, 1), (), (), ()))):
            self.wrong_choice(("split", parts))

    def test_the_last_house_is_checked_too(self):
        houses, contracts = line_web()
        bad = ("shop", ("sides", 1, (0,), 0, ()))
        self.wrong((houses[:2] + (bad,), contracts))

    def test_each_kind_in_random_webs(self):
        for kind in KINDS:
            for seed in range(15):
                self.right(random_web(seed, 4, 6, kinds=(kind, "table"), sound=False))


class ManyThingsTest(WebCase):
    def test_many_rows_and_groups_and_parts(self):
        many = 60
        rows = tuple((a, b, c) for a in range(many) for b in range(a + 1, many) for c in range(b + 1, many))[:20000]
        groups = tuple((tuple(range(k % many + 1)), k) for k in range(3000))
        parts = tuple(("table", ((k,),)) for k in range(many)) + (("table", ()),) * 3000
        for choice in (("table", rows), ("caps", tuple(range(many)), groups, (), ()), ("split", parts)):
            self.right(hub(many, 0, choice))
        self.wrong(hub(many, 0, ("table", rows + rows[:1])))
        self.wrong(hub(many, 0, ("caps", (), groups + (((1, 2), 1),), (), ())))
        self.wrong(hub(many, 0, ("split", parts + parts[:1])))


if __name__ == "__main__":
    unittest.main()
