"""Points [6], [8], [51] and the interface of nochaingains.merging."""

import copy
import random
import unittest

from nochaingains.allofthem import all_at_rest
from nochaingains.choices import choose, is_sound
from nochaingains.errors import InvalidWeb
from nochaingains.lots import all_by_lots
from nochaingains.merging import merged, parted
from nochaingains.networks import lot_gains
from nochaingains.offers import verdict
from nochaingains.webs import check_web, ring_of
from tests import brute
from tests.samples import FREE, KINDS, busy_web, double_line, hub, layered_web, line_web, name_of, random_web, two_rests

NOTHING = ("sides", 0, (), 0, ())
# A choice of each kind for a house with the buys 0, 1 and the sells 2, 3, its contracts being shifted.
PLAIN = (
    lambda k: ("maker", 1, (k + 1, k), (k + 2,)),
    lambda k: ("sides", 1, (k,), 2, (k + 3, k + 2)),
    lambda k: ("table", ((k, k + 2), (k + 3,))),
    lambda k: ("trader", 1, -k, (k, k + 1), (k + 3,)),
    lambda k: ("caps", (k, k + 1), (((k, k + 1), 1), ((k,), 5)), (k + 3,), (((k + 2, k + 3), 0),)),
)
SPLIT = (
    lambda k: ("split", (("maker", 1, (k,), (k + 2,)), ("caps", (k + 1,), (((k, k + 1), 1),), (), ()))),
    lambda k: ("split", ()),
    lambda k: ("split", (("table", ((k,), (k + 3,))),)),
)


def parts_of_choice(choice):
    return choice[1] if choice[0] == "split" else (choice,)


def two_hubs(one, other):
    """A web with two houses x and y with buys 0, 1 and 4, 5 and sells 2, 3 and 6, 7, and houses around them."""
    houses = (("a", FREE), ("x", one), ("b", FREE), ("y", other), ("c", FREE))
    ends = ((0, 1), (2, 1), (1, 4), (1, 4), (0, 3), (2, 3), (3, 4), (3, 4))
    return (houses, tuple((seller, buyer, number) for number, (seller, buyer) in enumerate(ends)))


def refuses(case, function, *row):
    before = copy.deepcopy(row)
    with case.assertRaises(InvalidWeb) as caught:
        function(*row)
    case.assertIs(type(caught.exception), InvalidWeb)
    case.assertEqual(row, before)


def alike(case, web, other):
    """Lots gain, and networks are at rest, in the one web exactly if they do and are so in the other one."""
    gaining = 0
    many = range(len(web[1]))
    for network in brute.all_sets(many):
        for lot in brute.lots(web, network):
            expected = brute.gains(web, network, lot)
            gaining += expected
            case.assertEqual(lot_gains(other, network, lot), expected)
        case.assertEqual(brute.kept(other, network), brute.kept(web, network))
        if is_sound(web):
            one, two = verdict(web, network), verdict(other, network)
            # Which house drops something may be told by another number, chains and offers are the same.
            case.assertEqual(one[0], two[0])
            case.assertTrue(one == two or one[0] == "drops")
    case.assertEqual(all_by_lots(other), all_by_lots(web))
    return gaining


class MergedTest(unittest.TestCase):
    def test_two_buyers(self):
        web = two_rests()
        houses = web[0][:2] + (("c", ("split", (web[0][2][1], web[0][3][1]))),)
        self.assertEqual(merged(web, 2, 3), (houses, ((0, 2, 5), (0, 2, 5), (1, 2, 5), (1, 2, 5))))
        houses = web[0][:2] + (("d", ("split", (web[0][3][1], web[0][2][1]))),)
        self.assertEqual(merged(web, 3, 2), (houses, ((0, 2, 5), (0, 2, 5), (1, 2, 5), (1, 2, 5))))

    def test_numbers_behind_the_second_house(self):
        web = two_hubs(NOTHING, FREE)
        both, turned = ("split", (NOTHING, FREE)), ("split", (FREE, NOTHING))
        a, b, c = ("a", FREE), ("b", FREE), ("c", FREE)
        ends = ((0, 1), (2, 1), (1, 3), (1, 3), (0, 1), (2, 1), (1, 3), (1, 3))
        rows = tuple((seller, buyer, number) for number, (seller, buyer) in enumerate(ends))
        # The second house is behind the first one.
        self.assertEqual(merged(web, 1, 3), ((a, ("x", both), b, c), rows))
        # It is before the first one, whose number falls as well.
        ends = ((0, 2), (1, 2), (2, 3), (2, 3), (0, 2), (1, 2), (2, 3), (2, 3))
        rows = tuple((seller, buyer, number) for number, (seller, buyer) in enumerate(ends))
        self.assertEqual(merged(web, 3, 1), ((a, b, ("y", turned), c), rows))
        self.assertEqual([name for name, _ in merged(web, 0, 2)[0]], ["a", "x", "y", "c"])
        self.assertEqual([name for name, _ in merged(web, 2, 0)[0]], ["x", "b", "y", "c"])

    def test_choices_of_all_kinds_on_both_sides(self):
        for one in PLAIN + SPLIT:
            for other in PLAIN + SPLIT:
                web = two_hubs(one(0), other(4))
                self.assertIsNone(check_web(web))
                before = copy.deepcopy(web)
                for first, second, parts in ((1, 3, parts_of_choice(one(0)) + parts_of_choice(other(4))),
                                             (3, 1, parts_of_choice(other(4)) + parts_of_choice(one(0)))):
                    found = merged(web, first, second)
                    self.assertIsNone(check_web(found))
                    name = web[0][first][0]
                    self.assertEqual(dict(found[0])[name], ("split", parts))
                    self.assertEqual(len(found[0]), 4)
                    place = [name for name, _ in found[0]].index(name)
                    for offered in brute.all_sets(range(8))[::3]:
                        both = choose(web, 1, offered) + choose(web, 3, offered)
                        self.assertEqual(choose(found, place, offered), tuple(sorted(both)))
                self.assertEqual(web, before)

    def test_houses_with_a_contract_with_each_other(self):
        for one, other in ((0, 1), (1, 0), (1, 2), (2, 1)):
            refuses(self, merged, line_web(), one, other)
        web = hub(1, 1, ("split", ()))
        refuses(self, merged, web, 0, 1)
        refuses(self, merged, web, 2, 0)

    def test_a_ring_of_sales_would_come_about(self):
        refuses(self, merged, line_web(), 0, 2)
        refuses(self, merged, line_web(), 2, 0)
        web = double_line(9)
        for one in range(9):
            for other in range(9):
                if one != other:
                    refuses(self, merged, web, one, other)
        # Two rows of sales beside each other: the first of one and the last of the other one fit.
        houses = tuple((name, FREE) for name in "abcdef")
        web = (houses, ((0, 1, 5), (1, 2, 5), (3, 4, 5), (4, 5, 5)))
        found = merged(web, 2, 3)
        self.assertIsNone(ring_of(found))
        self.assertEqual(found[1], ((0, 1, 5), (1, 2, 5), (2, 3, 5), (3, 4, 5)))
        refuses(self, merged, found, 0, 4)

    def test_houses_without_contracts(self):
        web = ((("a", FREE), ("b", ("split", ())), ("c", ("table", ()))), ())
        self.assertEqual(merged(web, 0, 1), ((("a", ("split", (FREE,))), web[0][2]), ()))
        self.assertEqual(merged(web, 1, 0), ((("b", ("split", (FREE,))), web[0][2]), ()))
        self.assertEqual(merged(web, 2, 1), ((web[0][0], ("c", ("split", (("table", ()),)))), ()))
        self.assertEqual(merged(web, 0, 2), ((("a", ("split", (FREE, ("table", ())))), web[0][1]), ()))

    def test_lots_and_verdicts_are_alike(self):
        right, gaining = 0, 0
        for seed in range(24):
            for web in (random_web(seed, 5, 4), busy_web(seed, 4, 4), random_web(seed, 4, 4, (KINDS[seed % 6],), False)):
                for one in range(len(web[0])):
                    for other in range(one):
                        try:
                            found = merged(web, *((one, other) if seed % 2 else (other, one)))
                        except InvalidWeb:
                            continue
                        right += 1
                        self.assertIsNone(check_web(found))
                        gaining += alike(self, web, found)
        self.assertGreater(right, 50)
        self.assertGreater(gaining, 200)

    def test_when_it_is_right(self):
        seen = {True: 0, False: 0}
        for seed in range(30):
            web = random_web(seed, 6, 6)
            for one in range(6):
                for other in range(6):
                    if one == other:
                        continue
                    ends = [[other if end == one else end for end in row[:2]] for row in web[1]]
                    renamed = (web[0], tuple((seller, buyer, 0) for seller, buyer in ends))
                    right = all(seller != buyer for seller, buyer in ends) and ring_of(renamed) is None
                    seen[right] += 1
                    if right:
                        self.assertEqual(len(merged(web, one, other)[0]), 5)
                    else:
                        refuses(self, merged, web, one, other)
        self.assertGreater(min(seen.values()), 100)

    def test_large_webs(self):
        web = layered_web(2, 10, 3, 60)
        found = merged(web, 0, 2)
        self.assertEqual(len(found[0]), 29)
        self.assertEqual(is_sound(found), True)
        found = merged(found, 28, 26)
        self.assertEqual((len(found[0]), len(found[1])), (28, 60))
        self.assertEqual(found[0][27][0], name_of(29))
        self.assertEqual([row[2] for row in found[1]], [row[2] for row in web[1]])


class PartedTest(unittest.TestCase):
    def test_two_parts(self):
        parts = (("sides", 1, (1, 0), 0, ()), ("maker", 1, (2,), (3,)))
        web = hub(3, 1, ("split", parts))
        houses = (("hub", parts[0]),) + web[0][1:] + (("a", parts[1]),)
        self.assertEqual(parted(web, 0), (houses, ((1, 0, 5), (1, 0, 5), (1, 3, 5), (3, 2, 5))))

    def test_one_part(self):
        for part in (make(0) for make in PLAIN):
            web = two_hubs(("split", (part,)), FREE)
            self.assertEqual(parted(web, 1), two_hubs(part, FREE))

    def test_none(self):
        refuses(self, parted, two_hubs(("split", ()), FREE), 1)
        refuses(self, parted, ((("a", ("split", ())),), ()), 0)

    def test_choices_that_are_not_split(self):
        for make in PLAIN:
            refuses(self, parted, two_hubs(make(0), FREE), 1)
        refuses(self, parted, ((("a", NOTHING),), ()), 0)

    def test_contracts_that_no_part_mentions_stay(self):
        # 1, 4 and 5 are mentioned by no part; groups do not mention them.
        parts = (("table", ((0,),)), ("caps", (2,), (((1, 2), 1),), (3,), (((3, 4, 5), 2),)))
        web = hub(3, 3, ("split", parts))
        found = parted(web, 0)
        self.assertEqual(found[0][3], ("a", ("caps", (2,), (((2,), 1),), (3,), (((3,), 2),))))
        self.assertEqual(found[1], ((1, 0, 5), (1, 0, 5), (1, 3, 5), (3, 2, 5), (0, 2, 5), (0, 2, 5)))
        # All stay, if no part mentions anything.
        web = hub(2, 2, ("split", (("table", ()), ("maker", 1, (), ()))))
        self.assertEqual(parted(web, 0), ((("hub", ("table", ())),) + web[0][1:] + (("a", ("maker", 1, (), ())),), web[1]))

    def test_groups_lose_contracts_of_other_parts(self):
        first = ("caps", (0, 1), (((0, 1, 2, 3), 1), ((2, 3), 0), ((1, 2, 3), 7), ((3,), 2)), (), (((4, 5), 1),))
        second = ("caps", (2,), (((0, 1, 2, 3), 2), ((0, 1), 5), ((2, 3), 1)), (5, 4), (((5,), 0), ((4, 5, 6), 1)))
        web = hub(4, 3, ("split", (first, second)))
        self.assertIsNone(check_web(web))
        found = parted(web, 0)
        # The first part keeps 3 and 6, which no part mentions.
        self.assertEqual(found[0][0], ("hub", ("caps", (0, 1), (((0, 1, 3), 1), ((3,), 0), ((1, 3), 7), ((3,), 2)), (), ())))
        self.assertEqual(found[0][3], ("a", ("caps", (2,), (((2,), 2), ((2,), 1)), (5, 4), (((5,), 0), ((4, 5), 1)))))
        ends = ((1, 0), (1, 0), (1, 3), (1, 0), (3, 2), (3, 2), (0, 2))
        self.assertEqual(found[1], tuple((seller, buyer, 5) for seller, buyer in ends))
        self.assertIsNone(check_web(found))
        alike(self, web, found)

    def test_parts_of_all_kinds(self):
        parts = (("maker", 1, (1,), (10,)), ("sides", 2, (3, 2), 1, (11,)), ("table", ((4, 12), (5,))),
                 ("trader", 3, -2, (6, 7), (13,)), ("caps", (8, 9), (((8, 9), 1),), (14,), ()))
        web = hub(10, 5, ("split", parts), tuple(range(15)))
        found = parted(web, 0)
        names = ("hub", "farm", "shop", "a", "b", "c", "d")
        self.assertEqual(tuple(name for name, _ in found[0]), names)
        self.assertEqual(tuple(choice for _, choice in found[0][3:]), parts[1:])
        self.assertEqual(found[0][0][1], parts[0])
        self.assertEqual(found[0][1:3], web[0][1:3])
        buyers = (0, 0, 3, 3, 4, 4, 5, 5, 6, 6)
        rows = tuple((1, buyer, price) for price, buyer in enumerate(buyers))
        rows += tuple((seller, 2, 10 + k) for k, seller in enumerate((0, 3, 4, 5, 6)))
        self.assertEqual(found[1], rows)

    def test_names_of_new_houses(self):
        parts = (("table", ()),) * 5

        def names(*others):
            houses = (("z", ("split", parts)),) + tuple((name, FREE) for name in others)
            found = parted((houses, ()), 0)[0]
            self.assertEqual([name for name, _ in found[:len(houses)]], ["z"] + list(others))
            return [name for name, _ in found[len(houses):]]

        self.assertEqual(names(), ["a", "b", "c", "d"])
        self.assertEqual(names("b", "aa", "d"), ["a", "c", "e", "f"])
        self.assertEqual(names("a", "b", "c"), ["d", "e", "f", "g"])
        letters = "abcdefghijklmnopqrstuvwxy"
        self.assertEqual(names(*letters), ["aa", "ab", "ac", "ad"])
        self.assertEqual(names(*letters[1:]), ["a", "aa", "ab", "ac"])
        self.assertEqual(names(*letters, "ab", "ad"), ["aa", "ac", "ae", "af"])

    def test_more_new_houses_than_letters(self):
        web = ((("m", ("split", (("table", ()),) * 60)), ("ab", FREE)), ())
        found = [name for name, _ in parted(web, 0)[0]]
        letters = "abcdefghijklmnopqrstuvwxyz"
        expected = [one for one in letters if one != "m"] + ["a" + one for one in letters if one != "b"]
        expected += ["b" + one for one in letters]
        self.assertEqual(found, ["m", "ab"] + expected[:59])
        many = 26 + 26 * 26 + 3
        web = ((("zzzz", ("split", (("maker", 0, (), ()),) * (many + 1))),), ())
        found = [name for name, _ in parted(web, 0)[0]]
        self.assertEqual(found[1:4] + found[26:29] + found[-5:], ["a", "b", "c", "z", "aa", "ab", "zy", "zz", "aaa", "aab", "aac"])
        self.assertEqual(sorted(found[1:], key=lambda name: (len(name), name)), found[1:])

    def test_lots_and_verdicts_are_alike(self):
        parts, gaining = 0, 0
        for seed in range(30):
            for web in (random_web(seed, 3, 4, ("split",), seed % 2 == 0), random_web(seed, 4, 5, ("split", "caps"))):
                for house in range(len(web[0])):
                    if web[0][house][1][0] != "split" or web[0][house][1] == ("split", ()):
                        refuses(self, parted, web, house)
                        continue
                    before = copy.deepcopy(web)
                    found = parted(web, house)
                    self.assertEqual(web, before)
                    self.assertIsNone(check_web(found))
                    self.assertEqual(len(found[0]), len(web[0]) + len(web[0][house][1][1]) - 1)
                    parts += 1
                    gaining += alike(self, web, found)
        self.assertGreater(parts, 60)
        self.assertGreater(gaining, 200)

    def test_houses_choose_together_what_the_one_chose(self):
        for seed in range(30):
            rng = random.Random(seed)
            web = random_web(seed, 3, 7, ("split",), False)
            for house in range(3):
                if web[0][house][1] == ("split", ()):
                    continue
                found = parted(web, house)
                heirs = [house] + list(range(3, len(found[0])))
                for _ in range(20):
                    offered = tuple(c for c in range(7) if rng.random() < 0.7)
                    chosen = [c for heir in heirs for c in choose(found, heir, offered)]
                    self.assertEqual(tuple(sorted(chosen)), choose(web, house, offered))

    def test_parting_what_was_merged(self):
        web = two_rests()
        found = parted(merged(web, 0, 1), 0)
        a, b, c, d = web[0]
        self.assertEqual(found[0], (a, c, d, b))
        self.assertEqual(found[1], ((0, 1, 5), (0, 2, 5), (3, 1, 5), (3, 2, 5)))
        self.assertEqual(all_at_rest(found), all_at_rest(web))
        self.assertEqual(all_at_rest(merged(web, 0, 1)), all_at_rest(web))

    def test_large_webs(self):
        parts = tuple(("caps", tuple(range(3 * k, 3 * k + 3)), ((tuple(range(30)), 2), (tuple(range(3 * k + 1)), 1)),
                       (30 + k,), ((tuple(range(30, 60)), 1),)) for k in range(9))
        web = hub(30, 30, ("split", parts))
        found = parted(web, 0)
        self.assertIsNone(check_web(found))
        self.assertEqual(len(found[0]), 11)
        own = tuple(range(3)) + (27, 28, 29)
        self.assertEqual(found[0][0][1], ("caps", (0, 1, 2), ((own, 2), ((0,), 1)), (30,),
                                          (((30,) + tuple(range(39, 60)), 1),)))
        self.assertEqual(found[0][4][1], ("caps", (6, 7, 8), (((6, 7, 8), 2), ((6,), 1)), (32,), (((32,), 1),)))


if __name__ == "__main__":
    unittest.main()
