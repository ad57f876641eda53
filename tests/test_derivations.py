"""Points [37] to [39] and the interface of nochaingains.derivations."""

import random
import unittest

from nochaingains.allofthem import all_at_rest
from nochaingains.choices import choose
from nochaingains.derivations import is_right_derivation, possible_contracts, sure_contracts, told_derivation
from nochaingains.stands import best_for_buyers
from tests import brute
from tests.samples import FREE, KINDS, busy_web, double_line, hub, layered_web, line_web, random_web, two_rests

NOTHING = ("sides", 0, (), 0, ())


def some_webs(many, contracts):
    for seed in range(many):
        yield random_web(seed, 4, contracts)
        yield random_web(seed, 4, contracts, (KINDS[seed % 6],))
        yield busy_web(seed, 4, contracts)
    yield two_rests()


def knows(web, house, before):
    """What the house chooses from if these letters stand before."""
    found = []
    for contract in brute.own(web, house):
        if brute.side_of(web, house, contract) == "buy":
            if ("withdraw", contract) not in before:
                found.append(contract)
        elif ("ask", contract) in before:
            found.append(contract)
    return tuple(found)


def is_so(web, letter, before):
    """Whether the letter is right behind these letters, by the words of point [37]."""
    kind, contract = letter
    seller, buyer, _ = web[1][contract]
    if kind == "ask":
        return contract in choose(web, buyer, knows(web, buyer, before))
    return ("ask", contract) in before and contract not in choose(web, seller, knows(web, seller, before))


def right(web, letters):
    for place, letter in enumerate(letters):
        if letter in letters[:place] or not is_so(web, letter, letters[:place]):
            return False
    return True


def possible_letters(web):
    return [(kind, contract) for contract in range(len(web[1])) for kind in ("ask", "withdraw")]


def told_by_words(web):
    told = ()
    while True:
        before_round = told
        for house in range(len(web[0])):
            fresh = [(kind, c) for kind, c in possible_letters(web) if web[1][c][1 if kind == "ask" else 0] == house
                     and is_so(web, (kind, c), told) and (kind, c) not in told]
            told += tuple(sorted(fresh, key=lambda letter: letter[1]))
        if told == before_round:
            return told


def grown(web, rng):
    """A right derivation with letters in a random order."""
    letters = ()
    while True:
        fresh = [one for one in possible_letters(web) if one not in letters and is_so(web, one, letters)]
        if not fresh or rng.random() < 0.05:
            return letters
        letters += (rng.choice(fresh),)


class RightDerivationsTest(unittest.TestCase):
    def check(self, web, letters, expected):
        with self.subTest(letters):
            self.assertIs(is_right_derivation(web, letters), expected)
            self.assertIs(right(web, letters), expected)

    def test_line(self):
        web = line_web()
        self.check(web, (), True)
        self.check(web, (("ask", 1),), True)
        self.check(web, (("ask", 1), ("ask", 0)), True)
        # Too early: the mill asks only when it is asked itself.
        self.check(web, (("ask", 0),), False)
        self.check(web, (("ask", 0), ("ask", 1)), False)
        # Twice.
        self.check(web, (("ask", 1), ("ask", 1)), False)
        self.check(web, (("ask", 1), ("ask", 0), ("ask", 1)), False)
        # No house would write these.
        self.check(web, (("withdraw", 1),), False)
        self.check(web, (("ask", 1), ("withdraw", 1)), False)
        self.check(web, (("ask", 1), ("ask", 0), ("withdraw", 0)), False)

    def test_withdrawn_letters(self):
        web = hub(0, 3, ("sides", 0, (), 1, (2, 0, 1)))
        asks = (("ask", 0), ("ask", 1))
        self.check(web, asks, True)
        self.check(web, asks + (("withdraw", 1),), True)
        self.check(web, asks + (("withdraw", 0),), False)
        self.check(web, (("withdraw", 1),) + asks, False)
        self.check(web, asks + (("withdraw", 1), ("withdraw", 1)), False)
        self.check(web, (("ask", 2), ("ask", 0), ("withdraw", 0), ("ask", 1), ("withdraw", 1)), True)
        self.check(web, (("ask", 2), ("withdraw", 2)), False)

    def test_a_letter_that_needs_a_withdrawal(self):
        houses, contracts = hub(3, 0, ("sides", 1, (1, 2, 0), 0, ()))
        web = ((houses[0], ("farm", ("sides", 0, (), 3, (0, 2))), houses[2]), contracts)
        self.check(web, (("ask", 1), ("withdraw", 1), ("ask", 2)), True)
        self.check(web, (("ask", 1), ("ask", 2)), False)
        self.check(web, (("ask", 2),), False)
        # What is withdrawn already is not chosen, so asking for it comes too late.
        silent = ((("hub", NOTHING), ("farm", NOTHING), houses[2]), contracts[:1])
        self.check(silent, (("ask", 0), ("withdraw", 0)), False)
        wants = ((("hub", ("sides", 1, (0,), 0, ())), ("farm", NOTHING), houses[2]), contracts[:1])
        self.check(wants, (("ask", 0), ("withdraw", 0)), True)
        self.check(wants, (("withdraw", 0), ("ask", 0)), False)

    def test_webs_without_contracts(self):
        self.check(((), ()), (), True)
        self.check(((("a", FREE),), ()), (), True)

    def test_by_the_words_of_the_document(self):
        counts = {True: 0, False: 0}
        for seed, web in enumerate(some_webs(30, 5)):
            rng = random.Random(seed)
            for _ in range(12):
                letters = list(grown(web, rng))
                self.assertIs(is_right_derivation(web, tuple(letters)), True)
                change = rng.choice(("drop", "swap", "twice", "extra"))
                if change == "extra":
                    letters.insert(rng.randint(0, len(letters)), rng.choice(possible_letters(web)))
                elif letters and change == "drop":
                    del letters[rng.randrange(len(letters))]
                elif letters and change == "twice":
                    letters.insert(rng.randint(0, len(letters)), rng.choice(letters))
                elif letters:
                    rng.shuffle(letters)
                expected = right(web, tuple(letters))
                counts[expected] += 1
                self.assertIs(is_right_derivation(web, tuple(letters)), expected)
        self.assertGreater(min(counts.values()), 100)

    def test_withdrawn_contracts_are_in_no_network_at_rest(self):
        withdrawn = 0
        for seed, web in enumerate(some_webs(40, 6)):
            rng = random.Random(seed)
            networks = all_at_rest(web)
            for letters in [told_derivation(web)] + [grown(web, rng) for _ in range(4)]:
                for kind, contract in letters:
                    if kind == "withdraw":
                        withdrawn += 1
                        self.assertFalse([network for network in networks if contract in network])
        self.assertGreater(withdrawn, 100)


class ToldDerivationTest(unittest.TestCase):
    def test_line(self):
        self.assertEqual(told_derivation(line_web()), (("ask", 1), ("ask", 0)))

    def test_all_letters_of_a_house_are_judged_at_once(self):
        web = hub(2, 2, ("maker", 1, (1, 0), (3, 2)))
        self.assertEqual(told_derivation(web), (("ask", 2), ("ask", 3), ("ask", 1), ("withdraw", 2)))
        houses, contracts = web
        turned = ((houses[2], houses[0], houses[1]), tuple((1, 0, 5) if row[0] == 0 else (2, 1, 5)
                                                           for row in contracts))
        self.assertEqual(told_derivation(turned), (("ask", 2), ("ask", 3), ("ask", 1), ("withdraw", 2)))

    def test_a_house_later_in_the_round_knows_what_was_put_behind(self):
        houses, contracts = line_web()
        turned = (houses[::-1], ((2, 1, 5), (1, 0, 9)))
        self.assertEqual(told_derivation(turned), (("ask", 1), ("ask", 0)))
        web = (houses[::-1][:2] + (("farm", NOTHING),), turned[1])
        self.assertEqual(told_derivation(web), (("ask", 1), ("ask", 0), ("withdraw", 0), ("withdraw", 1)))

    def test_letters_of_one_house_are_in_order_of_contracts(self):
        houses = (("hub", ("sides", 2, (3, 1), 0, (2,))), ("farm", ("sides", 0, (), 2, (1, 3))),
                  ("shop", ("sides", 2, (0, 2), 0, ())))
        web = (houses, ((0, 2, 5), (1, 0, 5), (0, 2, 5), (1, 0, 5)))
        self.assertEqual(told_derivation(web), (
            ("ask", 1), ("ask", 3), ("ask", 0), ("ask", 2), ("withdraw", 0), ("withdraw", 2)))

    def test_nothing_to_write(self):
        for web in (((), ()), ((("a", FREE),), ()), ((("a", NOTHING), ("b", NOTHING)), ((0, 1, 5),))):
            self.assertEqual(told_derivation(web), ())

    def test_by_the_words_of_the_document(self):
        for web in some_webs(40, 6):
            told = told_derivation(web)
            self.assertEqual(told, told_by_words(web))
            self.assertIs(is_right_derivation(web, told), True)
            for many in range(len(told)):
                self.assertIs(is_right_derivation(web, told[:many]), True)

    def still_there(self, web):
        gone = {contract for kind, contract in told_derivation(web) if kind == "withdraw"}
        return tuple(contract for contract in range(len(web[1])) if contract not in gone)

    def test_what_is_left_is_open_in_the_greatest_stand(self):
        for web in some_webs(40, 6):
            self.assertEqual(self.still_there(web), best_for_buyers(web)[0])

    def test_large_webs(self):
        for web in [layered_web(seed, 10, 3, 60) for seed in range(4)] + [double_line(30)]:
            self.assertEqual(self.still_there(web), best_for_buyers(web)[0])
            self.assertIs(is_right_derivation(web, told_derivation(web)), True)


class SureAndPossibleTest(unittest.TestCase):
    def test_line_and_two_networks(self):
        self.assertEqual(sure_contracts(line_web()), (0, 1))
        self.assertEqual(possible_contracts(line_web()), (0, 1))
        self.assertEqual(sure_contracts(two_rests()), ())
        self.assertEqual(possible_contracts(two_rests()), (0, 1, 2, 3))

    def test_webs_in_which_nothing_is_made(self):
        for web in (((), ()), ((("a", FREE),), ()), ((("a", NOTHING), ("b", NOTHING)), ((0, 1, 5),))):
            self.assertEqual(sure_contracts(web), ())
            self.assertEqual(possible_contracts(web), ())

    def test_by_trying_all_networks(self):
        between = 0
        for web in some_webs(40, 5):
            everything = range(len(web[1]))
            networks = [n for n in brute.all_sets(everything) if brute.at_rest(web, n)]
            sure = tuple(c for c in everything if all(c in n for n in networks))
            some = tuple(c for c in everything if any(c in n for n in networks))
            between += sure != some
            self.assertEqual(sure_contracts(web), sure)
            self.assertEqual(possible_contracts(web), some)
        self.assertGreater(between, 3)

    def test_twelve_contracts(self):
        for seed in range(4):
            web = random_web(seed, 6, 12)
            self.assertLessEqual(set(sure_contracts(web)), set(possible_contracts(web)))


if __name__ == "__main__":
    unittest.main()
