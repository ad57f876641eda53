"""Points [42], [43], [52] and the interface of nochaingains.seen."""

import copy
import random
import unittest
from itertools import permutations, product

from nochaingains.choices import choose
from nochaingains.seen import (
    explanation, is_right_maker_refusal, is_right_refusal, maker_explanation, maker_refusal, refusal,
)
from tests.samples import FREE

HUGE = 10 ** 5000


def first_of(wishes, room, offered):
    return set([c for c in wishes if c in offered][:room])


def made_by(maker, offered):
    """What a maker chooses (point [7])."""
    _, room, buys, sells = maker
    buys = [c for c in buys if c in offered]
    sells = [c for c in sells if c in offered]
    k = min(room, len(buys), len(sells))
    return set(buys[:k]) | set(sells[:k])


def explains(wishes, room, book):
    return all(first_of(wishes, room, offered) == set(chosen) for offered, chosen in book)


def wished_in(book):
    return sorted({c for _, chosen in book for c in chosen})


def lists(contracts):
    """All lists of just these contracts, in ascending order."""
    return permutations(sorted(contracts))


def told(book):
    """The told explanation, by trying all rooms and all lists."""
    wished = wished_in(book)
    for room in range(len(wished) + 3):
        for wishes in lists(wished):
            if explains(wishes, room, book):
                return (room, wishes)
    return None


def told_maker(book, buys):
    wished = wished_in(book)
    near, far = [c for c in wished if c in buys], [c for c in wished if c not in buys]
    for room in range(len(wished) + 3):
        for one in lists(near):
            for other in lists(far):
                maker = ("maker", room, one, other)
                if all(made_by(maker, offered) == set(chosen) for offered, chosen in book):
                    return maker
    return None


def is_pair(book, index):
    return index in range(len(book))


def goes_round(book, row):
    for place, (index, contract) in enumerate(row):
        following = row[(place + 1) % len(row)][1]
        if not is_pair(book, index) or contract not in book[index][1]:
            return False
        if following not in book[index][0] or following in book[index][1]:
            return False
    return row != ()


def judged(book, clashes):
    """Point [43], by its words."""
    if len(clashes) != len(wished_in(book)) + 1:
        return False
    for room, clash in enumerate(clashes):
        if clash[0] == "many":
            so = is_pair(book, clash[1]) and len(book[clash[1]][1]) > room
        elif clash[0] == "left":
            _, index, contract, other = clash
            so = is_pair(book, index) and is_pair(book, other) and len(book[index][1]) < room
            so = so and contract in set(book[index][0]) - set(book[index][1]) and contract in book[other][1]
        else:
            so = goes_round(book, clash[1])
        if not so:
            return False
    return True


def judged_maker(book, buys, clashes):
    """Point [52], by its words."""
    wished = set(wished_in(book))
    near, far = wished & set(buys), wished - set(buys)
    if len(clashes) != len(near) + 1:
        return False
    for room, clash in enumerate(clashes):
        if clash[0] == "ring":
            sides = {contract in buys for _, contract in clash[1]}
            so = goes_round(book, clash[1]) and len(sides) == 1
        elif not is_pair(book, clash[1]):
            so = False
        else:
            offered, chosen = (set(part) for part in book[clash[1]])
            many = len(chosen & set(buys))
            if clash[0] == "uneven":
                so = many != len(chosen - set(buys))
            elif clash[0] == "many":
                so = many > room
            else:
                so = many < room and many < len(offered & near) and many < len(offered & far)
        if not so:
            return False
    return True


def all_pairs(contracts):
    """All pairs over the contracts: each one is not offered, offered and not chosen, or chosen."""
    for marks in product(range(3), repeat=len(contracts)):
        offered = tuple(c for c, mark in zip(contracts, marks) if mark)
        yield (offered, tuple(c for c, mark in zip(contracts, marks) if mark == 2))


def all_books(contracts, many):
    return product(list(all_pairs(contracts)), repeat=many)


def some_set(rng, contracts, share):
    return tuple(sorted(c for c in contracts if rng.random() < share))


def seen_book(rng, contracts, pairs, chooser, spoiled):
    """A book of what the chooser chose, with so many pairs spoiled."""
    book = []
    for number in range(pairs):
        offered = some_set(rng, contracts, 0.6)
        chosen = tuple(sorted(chooser(offered)))
        if number < spoiled:
            chosen = some_set(rng, offered, 0.5)
        book.append((offered, chosen))
    rng.shuffle(book)
    return tuple(book)


def list_book(seed, contracts, pairs, spoiled=0, room=None):
    rng = random.Random(seed)
    wishes = rng.sample(contracts, rng.randint(0, len(contracts)))
    room = rng.randint(0, 4) if room is None else room
    return seen_book(rng, contracts, pairs, lambda offered: first_of(wishes, room, offered), spoiled)


def maker_book(seed, contracts, pairs, spoiled=0):
    rng = random.Random(seed)
    buys = some_set(rng, contracts, 0.5)
    wished = rng.sample(contracts, rng.randint(len(contracts) // 2, len(contracts)))
    near, far = tuple(c for c in wished if c in buys), tuple(c for c in wished if c not in buys)
    maker = ("maker", rng.randint(0, 3), near, far)
    return seen_book(rng, contracts, pairs, lambda offered: made_by(maker, offered), spoiled), buys


def some_clash(rng, book, contracts):
    """A clash of any shape whose numbers may be just beyond what there is."""
    index, other = rng.randint(-1, len(book)), rng.randint(0, len(book))
    contract = rng.choice(contracts)
    shape = rng.choice(("many", "left", "ring", "ring"))
    if shape == "many":
        return ("many", index)
    if shape == "left":
        return ("left", index, contract, other)
    row = tuple((rng.randrange(len(book)), rng.choice(contracts)) for _ in range(rng.randint(0, 3)))
    return ("ring", row)


class ExplanationTest(unittest.TestCase):
    def test_by_hand(self):
        book = (((0, 1, 2), (1,)), ((0, 2), (2,)), ((0,), (0,)))
        self.assertEqual(explanation(book), (1, (1, 2, 0)))
        self.assertEqual(explanation(book[:2]), (1, (1, 2)))
        # Out of all three the list takes one, and out of two of them both: no room fits.
        self.assertIsNone(explanation(book + (((0, 2), (0, 2)),)))

    def test_edges(self):
        for book, expected in (
            ((), (0, ())), ((((), ()),), (0, ())), ((((), ()), ((), ())), (0, ())), ((((4, 7), ()),), (0, ())),
            ((((4, 7), (7,)),), (1, (7,))), ((((4, 7), (4, 7)),), (2, (4, 7))),
            ((((4, 7), (7,)), ((4, 7), (7,))), (1, (7,))), ((((4, 7), (7,)), ((4, 7), (4,))), None),
            ((((4,), ()), ((4,), (4,))), None), ((((4,), ()), ((4, 5), (4,))), None),
            ((((), ()), ((4,), (4,))), (1, (4,))),
        ):
            with self.subTest(book):
                self.assertEqual(explanation(book), expected)

    def test_a_room_that_no_pair_fills_is_the_least_one(self):
        # With room 2 nothing tells that one stands ahead of the other.
        self.assertEqual(explanation((((3, 5), (3, 5)), ((3, 9), (3,)))), (2, (3, 5)))
        # With room 2, both that were chosen stand ahead of the least contract.
        self.assertEqual(explanation((((3, 5, 9), (5, 9)), ((3,), (3,)))), (2, (5, 9, 3)))
        self.assertEqual(explanation((((9,), (9,)), ((5,), (5,)), ((3,), (3,)))), (1, (3, 5, 9)))

    def test_the_least_list(self):
        # 8 stands ahead of 1, and nothing else is told.
        self.assertEqual(explanation((((1, 8), (8,)), ((1,), (1,)), ((4,), (4,)), ((9,), (9,)))), (1, (4, 8, 1, 9)))

    def test_all_small_books(self):
        seen = {True: 0, False: 0}
        books = [book for many in range(3) for book in all_books((0, 1, 2), many)]
        books += list(all_books((5, 9), 3)) + list(all_books((0, 1, 2), 3))[::7]
        for book in books:
            expected = told(book)
            self.assertEqual(explanation(book), expected)
            seen[expected is None] += 1
            clashes = refusal(book)
            self.assertEqual(clashes is None, expected is not None)
            if clashes is not None:
                self.assertTrue(judged(book, clashes), (book, clashes))
                self.assertIs(is_right_refusal(book, clashes), True)
        self.assertGreater(min(seen.values()), 300)

    def test_random_books(self):
        seen = {True: 0, False: 0}
        for seed in range(300):
            book = list_book(seed, (2, 3, 5, 7, 11), 6, seed % 3)
            expected = told(book)
            self.assertEqual(explanation(book), expected)
            seen[expected is None] += 1
        self.assertGreater(min(seen.values()), 50)

    def test_lists_with_contracts_that_are_never_chosen(self):
        for book in all_books((0, 1, 2), 2):
            rows = [row for size in range(4) for row in permutations((0, 1, 2), size)]
            some = any(explains(row, room, book) for row in rows for room in range(4))
            self.assertEqual(explanation(book) is not None, some)


class RefusalTest(unittest.TestCase):
    def wrong(self, book, clashes):
        with self.subTest(clashes=clashes):
            self.assertFalse(judged(book, clashes))
            self.assertIs(is_right_refusal(book, clashes), False)

    def right(self, book, clashes):
        with self.subTest(clashes=clashes):
            self.assertTrue(judged(book, clashes))
            self.assertIs(is_right_refusal(book, clashes), True)

    def test_by_hand(self):
        # Two are chosen in one pair, and one is left in the other one.
        book = (((0, 1), (0, 1)), ((0, 1), (0,)))
        right = (("many", 0), ("many", 0), ("left", 1, 1, 0))
        self.right(book, right)
        self.right(book, (("many", 1),) + right[1:])
        self.assertIsNotNone(refusal(book))
        self.wrong(book, right[:2])
        self.wrong(book, right + (("left", 1, 1, 0),))
        self.wrong(book, right[:1] + (right[2], right[1]))
        self.wrong(book, (right[2], right[1], right[0]))
        self.wrong(book, ())
        self.wrong(book, (("many", 0), ("many", 1), right[2]))
        for index in (-1, -2, 2, HUGE, -HUGE):
            self.wrong(book, (("many", index),) + right[1:])
            self.wrong(book, right[:2] + (("left", index, 1, 0),))
            self.wrong(book, right[:2] + (("left", 1, 1, index),))
        # Not offered anywhere; chosen there; never chosen in the other pair.
        for contract, other in ((2, 0), (HUGE, 0), (-1, 0), (0, 0), (1, 1)):
            self.wrong(book, right[:2] + (("left", 1, contract, other),))
        # As many are chosen as the room is.
        self.wrong(book, (right[0], ("left", 1, 1, 0), right[2]))

    def test_left_needs_to_be_offered(self):
        book = (((0, 1), (0, 1)), ((0, 1), (0,)), ((0,), (0,)))
        self.right(book, (("many", 0), ("many", 0), ("left", 1, 1, 0)))
        self.wrong(book, (("many", 0), ("many", 0), ("left", 2, 1, 0)))

    def test_rings(self):
        book = (((0, 1), (0,)), ((0, 1), (1,)))
        row = ((0, 0), (1, 1))
        ring = ("ring", row)
        self.right(book, (ring, ring, ring))
        self.right(book, (("many", 1), ring, ("left", 0, 1, 1)))
        self.right(book, (ring, ("ring", row[::-1]), ring))
        # The words of the document do not bar a row that goes round twice.
        self.right(book, (ring, ("ring", row + row), ring))
        self.wrong(book, (ring, ("ring", row + row[:1]), ring))
        self.wrong(book, (ring, ("ring", ()), ring))
        for place in range(3):
            clashes = [ring, ring, ring]
            for bad in ((), row[:1], row[1:], row[:1] * 2, ((0, 1), (1, 0)), ((1, 0), (0, 1)), ((0, 0), (0, 1)),
                        ((0, 0), (1, 2)), ((0, 2), (1, 1)), ((0, 0), (2, 1)), ((-2, 0), (1, 1)), ((0, 0), (-1, 1)),
                        ((HUGE, 0), (1, 1)), ((0, 0), (1, HUGE)), ((0, 0), (1, -HUGE)), row + ((0, 1),)):
                clashes[place] = ("ring", bad)
                self.wrong(book, tuple(clashes))
        self.wrong(book, (ring, ring))
        self.wrong(book, (ring,) * 4)

    def test_a_ring_of_one_pair_is_never_right(self):
        for pair in all_pairs((0, 1)):
            for contract in range(3):
                for row in (((0, contract),), ((0, contract),) * 2):
                    self.wrong((pair,), (("ring", row),) * (len(pair[1]) + 1))

    def test_rings_of_three(self):
        book = (((0, 1), (0,)), ((1, 2), (1,)), ((0, 2), (2,)))
        ring = ("ring", ((0, 0), (1, 1), (2, 2)))
        self.right(book, (ring,) * 4)
        self.wrong(book, (("ring", ring[1][::-1]),) * 4)
        self.assertIsNone(explanation(book))
        self.assertTrue(judged(book, refusal(book)))

    def test_books_that_can_be_explained_have_none(self):
        self.assertIsNone(refusal(()))
        for clash in (("many", 0), ("left", 0, 0, 0), ("ring", ())):
            self.wrong((), (clash,))
            self.wrong((((), ()),), (clash,))
        self.wrong((), ())
        for seed in range(60):
            rng = random.Random(seed)
            book = list_book(seed, (0, 1, 2, 3), 4)
            self.assertIsNone(refusal(book))
            many = len(wished_in(book)) + 1
            for _ in range(60):
                self.wrong(book, tuple(some_clash(rng, book, (0, 1, 2, 3)) for _ in range(many)))

    def test_judging_spoiled_refusals(self):
        found = {True: 0, False: 0}
        for seed in range(400):
            rng = random.Random(seed)
            book = list_book(seed, (0, 1, 2, 3), 4, 3)
            clashes = refusal(book)
            if clashes is None:
                continue
            for _ in range(20):
                spoiled = list(clashes)
                spoiled[rng.randrange(len(spoiled))] = some_clash(rng, book, (0, 1, 2, 3, 4))
                expected = judged(book, tuple(spoiled))
                self.assertIs(is_right_refusal(book, tuple(spoiled)), expected)
                found[expected] += 1
        self.assertGreater(min(found.values()), 100)

    def test_long_rows_and_many_clashes(self):
        book = (((0, 1), (0,)), ((0, 1), (1,)))
        row = ((0, 0), (1, 1)) * 5000
        self.right(book, (("ring", row),) * 3)
        self.wrong(book, (("ring", row + row[:1]),) * 3)
        self.wrong(book, (("ring", row[:2]),) * 3000)


class MakerExplanationTest(unittest.TestCase):
    def test_by_hand(self):
        book = (((0, 1, 5, 6), (1, 6)), ((0, 5), (0, 5)), ((0, 1), ()))
        self.assertEqual(maker_explanation(book, (0, 1)), ("maker", 1, (1, 0), (6, 5)))
        self.assertEqual(maker_explanation(book, (0, 1, 2, 3)), ("maker", 1, (1, 0), (6, 5)))
        self.assertEqual(maker_explanation(book[:1], (1,)), ("maker", 1, (1,), (6,)))
        self.assertIsNone(maker_explanation(book, (0, 1, 5, 6)))
        self.assertIsNone(maker_explanation(book, ()))

    def test_edges(self):
        nothing = ("maker", 0, (), ())
        for book, buys, expected in (
            ((), (), nothing), ((), (0, 1), nothing), ((((), ()),), (), nothing), ((((0, 1), ()),), (0,), nothing),
            ((((0,), (0,)),), (0,), None), ((((0,), (0,)),), (), None),
            ((((0, 1), (0, 1)),), (0,), ("maker", 1, (0,), (1,))), ((((0, 1), (0, 1)),), (1,), ("maker", 1, (1,), (0,))),
            ((((0, 1), (0, 1)),), (0, 1), None), ((((0, 1), (0, 1)), ((0, 1), (0, 1))), (0,), ("maker", 1, (0,), (1,))),
            ((((0, 1), (0, 1)), ((0, 1), ())), (0,), None), ((((0, 1), (0, 1)), ((0, 2), ())), (0,), ("maker", 1, (0,), (1,))),
        ):
            with self.subTest(book, buys=buys):
                self.assertEqual(maker_explanation(book, buys), expected)

    def test_all_small_books(self):
        cases = [(book, buys) for many in range(3) for book in all_books((0, 1, 2), many) for buys in ((0,), (0, 2), ())]
        cases += [(book, (0, 1)) for book in list(all_books((0, 1, 2, 3), 2))[::5]]
        cases += [(book, (1,)) for book in list(all_books((0, 1, 2), 3))[::11]]
        self.compare(cases, 60)

    def test_random_books(self):
        self.compare([maker_book(seed, (2, 3, 5, 7, 11, 12), 6, seed % 3) for seed in range(300)], 40)

    def compare(self, cases, least):
        seen = {True: 0, False: 0}
        for book, buys in cases:
            expected = told_maker(book, buys)
            self.assertEqual(maker_explanation(book, buys), expected)
            seen[expected is None] += 1
            clashes = maker_refusal(book, buys)
            self.assertEqual(clashes is None, expected is not None)
            if clashes is not None:
                self.assertTrue(judged_maker(book, buys, clashes), (book, buys, clashes))
                self.assertIs(is_right_maker_refusal(book, buys, clashes), True)
        self.assertGreater(min(seen.values()), least)

    def test_wishes_that_are_never_chosen(self):
        rows = [row for size in range(3) for row in permutations((0, 1), size)]
        others = [row for size in range(3) for row in permutations((2, 3), size)]
        makers = [("maker", room, one, other) for room in range(4) for one in rows for other in others]
        for book in list(all_books((0, 1, 2, 3), 2))[::17]:
            some = any(all(made_by(maker, o) == set(c) for o, c in book) for maker in makers)
            self.assertEqual(maker_explanation(book, (0, 1)) is not None, some)

    def test_what_the_program_chooses(self):
        for seed in range(40):
            rng = random.Random(seed)
            web = ((("hub", FREE), ("farm", FREE), ("shop", FREE)), ((1, 0, 5),) * 4 + ((0, 2, 5),) * 4)
            maker = ("maker", rng.randint(0, 3), tuple(rng.sample(range(4), 3)), tuple(rng.sample(range(4, 8), 3)))
            web = ((("hub", maker),) + web[0][1:], web[1])
            offers = [some_set(rng, range(8), 0.6) for _ in range(20)]
            book = tuple((offered, choose(web, 0, offered)) for offered in offers)
            found = maker_explanation(book, (0, 1, 2, 3))
            again = ((("hub", found),) + web[0][1:], web[1])
            self.assertEqual(tuple((offered, choose(again, 0, offered)) for offered in offers), book)


class MakerRefusalTest(unittest.TestCase):
    def wrong(self, book, buys, clashes):
        with self.subTest(clashes=clashes):
            self.assertFalse(judged_maker(book, buys, clashes))
            self.assertIs(is_right_maker_refusal(book, buys, clashes), False)

    def right(self, book, buys, clashes):
        with self.subTest(clashes=clashes):
            self.assertTrue(judged_maker(book, buys, clashes))
            self.assertIs(is_right_maker_refusal(book, buys, clashes), True)

    def test_by_hand(self):
        # Buys are 0 and 1; of four contracts two and two are chosen once, and one and one another time.
        book = (((0, 1, 2, 3), (0, 1, 2, 3)), ((0, 1, 2, 3), (0, 2)))
        buys = (0, 1)
        right = (("many", 0), ("many", 0), ("few", 1))
        self.right(book, buys, right)
        self.right(book, buys, (("many", 1),) + right[1:])
        self.wrong(book, buys, right[:2])
        self.wrong(book, buys, right + right[2:])
        self.wrong(book, buys, (right[0], right[2], right[1]))
        self.wrong(book, buys, (("few", 1),) + right[1:])
        self.wrong(book, buys, right[:2] + (("few", 0),))
        self.wrong(book, buys, right[:2] + (("uneven", 1),))
        self.wrong(book, buys, (("many", 0), ("many", 1), ("few", 1)))
        self.wrong(book, buys, ())
        for index in (-1, -2, 2, HUGE, -HUGE):
            self.wrong(book, buys, (("many", index),) + right[1:])
            self.wrong(book, buys, right[:2] + (("few", index),))
            self.wrong(book, buys, right[:2] + (("uneven", index),))
        # With other buys the same clashes are not right.
        self.wrong(book, (0,), right)
        self.wrong(book, (), right)

    def test_uneven(self):
        book = (((0, 1, 2), (0, 1, 2)), ((0, 2), (0, 2)))
        self.right(book, (0, 1), (("uneven", 0),) * 3)
        self.wrong(book, (0, 1), (("uneven", 1),) * 3)
        self.right((((2,), (2,)),), (0, 1), (("uneven", 0),))
        self.wrong((((2,), (2,)),), (0, 1), (("uneven", 0),) * 2)
        self.wrong((((2,), (2,)),), (2,), (("uneven", 0),))
        self.right((((2,), (2,)),), (2,), (("uneven", 0),) * 2)

    def test_few_needs_wished_buys_and_wished_sells(self):
        # 1 and 3 are never chosen, so in the second pair no more could be chosen.
        book = (((0, 2), (0, 2)), ((0, 1, 2, 3), (0, 2)), ((0, 1), ()), ((0, 3), ()), ((0, 2, 9), ()))
        self.right(book, (0, 1), (("many", 0), ("few", 4)))
        for index in range(4):
            self.wrong(book, (0, 1), (("many", 0), ("few", index)))
        self.assertEqual(maker_explanation(book[:4], (0, 1)), ("maker", 1, (0,), (2,)))

    def test_rings(self):
        # Buys 0, 1 and sells 2, 3: the buys are chosen by turns, and so are the sells.
        book = (((0, 1, 2, 3), (0, 2)), ((0, 1, 2, 3), (1, 3)))
        buys = (0, 1)
        near, far = ((0, 0), (1, 1)), ((0, 2), (1, 3))
        for row in (near, far, near[::-1], near + near, far * 3):
            self.right(book, buys, (("ring", row),) * 3)
        # Each next contract was passed over, but the row has both buys and sells.
        for row in (((0, 0), (1, 3)), ((0, 2), (1, 1)), near + far):
            self.assertTrue(goes_round(book, row))
            self.wrong(book, buys, (("ring", row),) * 3)
            self.right(book, tuple(sorted({c for _, c in row})), (("ring", row),) * (len({c for _, c in row}) + 1))
        for row in ((), near[:1], near[:1] * 2, near + near[:1], ((0, 0), (2, 1)), ((0, 0), (-1, 1)), ((0, 4), (1, 1)),
                    ((0, 0), (1, HUGE)), ((1, 0), (0, 1))):
            self.wrong(book, buys, (("ring", near), ("ring", row), ("ring", near)))
        self.wrong(book, buys, (("ring", near),) * 2)
        self.wrong(book, buys, (("ring", near),) * 4)

    def test_books_that_can_be_explained_have_none(self):
        self.assertIsNone(maker_refusal((), ()))
        for clash in (("uneven", 0), ("many", 0), ("few", 0), ("ring", ())):
            self.wrong((), (), (clash,))
            self.wrong((((), ()),), (3,), (clash,))
        for seed in range(60):
            rng = random.Random(seed)
            book, buys = maker_book(seed, (0, 1, 2, 3), 4)
            self.assertIsNone(maker_refusal(book, buys))
            many = len(set(wished_in(book)) & set(buys)) + 1
            for _ in range(40):
                clashes = tuple(self.some_maker_clash(rng, book, (0, 1, 2, 3)) for _ in range(many))
                self.wrong(book, buys, clashes)

    def some_maker_clash(self, rng, book, contracts):
        clash = some_clash(rng, book, contracts)
        if clash[0] == "ring":
            return clash
        return (rng.choice(("uneven", "many", "few")), clash[1])

    def test_judging_spoiled_refusals(self):
        found = {True: 0, False: 0}
        for seed in range(300):
            rng = random.Random(seed)
            book, buys = maker_book(seed, (0, 1, 2, 3, 4, 5), 4, 3)
            clashes = maker_refusal(book, buys)
            if clashes is None:
                continue
            for _ in range(20):
                spoiled = list(clashes)
                spoiled[rng.randrange(len(spoiled))] = self.some_maker_clash(rng, book, range(7))
                expected = judged_maker(book, buys, tuple(spoiled))
                self.assertIs(is_right_maker_refusal(book, buys, tuple(spoiled)), expected)
                found[expected] += 1
        self.assertGreater(min(found.values()), 100)


class BoundsTest(unittest.TestCase):
    def check(self, book, buys):
        before = copy.deepcopy((book, buys))
        found, clashes = explanation(book), refusal(book)
        self.assertEqual(found is None, clashes is not None)
        if found is not None:
            self.assertTrue(explains(found[1], found[0], book))
            self.assertEqual(sorted(found[1]), wished_in(book))
        else:
            self.assertTrue(judged(book, clashes) and is_right_refusal(book, clashes))
        maker, clashes = maker_explanation(book, buys), maker_refusal(book, buys)
        self.assertEqual(maker is None, clashes is not None)
        if maker is not None:
            self.assertTrue(all(made_by(maker, offered) == set(chosen) for offered, chosen in book))
        else:
            self.assertTrue(judged_maker(book, buys, clashes) and is_right_maker_refusal(book, buys, clashes))
        self.assertEqual((book, buys), before)
        return (found is None, maker is None)

    def test_many_pairs_over_nine_contracts(self):
        seen = set()
        for seed in range(60):
            seen.add(self.check(list_book(seed, range(9), 24, seed % 2), (1, 4, 5, 8)))
            seen.add(self.check(*maker_book(seed, range(9), 24, seed % 2)))
        self.assertLessEqual({(True, True), (True, False), (False, True)}, seen)

    def test_more_pairs_over_more_contracts(self):
        for seed in range(2):
            self.check(list_book(seed, range(60), 200, 0, 7), tuple(range(0, 60, 2)))
            self.check(*maker_book(seed, range(60), 200))
        # A ring through all contracts.
        ring = tuple((tuple(sorted((k, (k + 1) % 60))), (k,)) for k in range(60))
        self.check(ring, ())
        self.check(ring[:-1], ())

    def test_huge_numbers(self):
        names = (HUGE, HUGE + 1, 7 * HUGE, 3)
        for seed in range(30):
            book = list_book(seed, range(4), 5, seed % 3)
            renamed = tuple((tuple(sorted(names[c] for c in o)), tuple(sorted(names[c] for c in ch))) for o, ch in book)
            self.assertEqual(explanation(renamed), told(renamed))
            self.check(renamed, (3, HUGE))

    def test_kinds_of_results(self):
        self.assertIs(type(explanation(())), tuple)
        self.assertIs(type(refusal((((0,), ()), ((0,), (0,))))), tuple)
        for clash in refusal((((0, 1), (0,)), ((0, 1), (1,)))):
            self.assertIs(type(clash), tuple)
            self.assertTrue(all(type(pair) is tuple for pair in clash[1]))
        self.assertIs(type(maker_explanation((), ())), tuple)
        self.assertIs(type(maker_refusal((((0,), (0,)),), ())), tuple)


if __name__ == "__main__":
    unittest.main()
