"""Points [29] to [32] and the interface of nochaingains.talks."""

import random
import unittest

from nochaingains.choices import choose
from nochaingains.errors import NoLetter
from nochaingains.stands import best_for_buyers, network_of
from nochaingains.talks import Talk
from nochaingains.webs import buys_of, sells_of
from tests.samples import FREE, KINDS, busy_web, double_line, hub, layered_web, line_web, random_web, two_rests

NOTHING = ("sides", 0, (), 0, ())


def talk_until_quiet(talk, houses):
    """Every house posts, and all letters are delivered, round after round."""
    while not talk.is_quiet():
        for house in range(houses):
            talk.post(house)
        while talk.waiting():
            talk.deliver(0)


class ModelOfTalk:
    """A talk by the words of the document: what each house knows, and what it ever wrote."""

    def __init__(self, web):
        self.web = web
        self.houses = range(len(web[0]))
        self.shown = {h: set(buys_of(web, h)) for h in self.houses}
        self.asked = {h: set() for h in self.houses}
        self.letters = {h: set() for h in self.houses}
        self.line = []
        for house in self.houses:
            self.think(house)

    def think(self, house):
        chosen = choose(self.web, house, tuple(sorted(self.shown[house] | self.asked[house])))
        for x in self.shown[house]:
            if x in chosen:
                self.letters[house].add(("ask", x))
        for x in self.asked[house]:
            if x not in chosen:
                self.letters[house].add(("withdraw", x))

    def deliver(self, index):
        kind, x = self.line.pop(index)
        seller, buyer, _ = self.web[1][x]
        if kind == "ask":
            self.asked[seller].add(x)
            self.think(seller)
        else:
            self.shown[buyer].discard(x)
            self.think(buyer)

    def written(self, house):
        return sorted(self.letters[house], key=lambda letter: letter[1])

    def quiet(self):
        for kind, x in set().union(*self.letters.values()):
            seller, buyer, _ = self.web[1][x]
            if x not in self.asked[seller] if kind == "ask" else x in self.shown[buyer]:
                return False
        return True


class LineTest(unittest.TestCase):
    def setUp(self):
        self.talk = Talk(line_web())

    def test_the_beginning(self):
        talk = self.talk
        self.assertEqual([talk.known_open(h) for h in range(3)], [(), (0,), (1,)])
        self.assertEqual([talk.known_asked(h) for h in range(3)], [(), (), ()])
        self.assertEqual([talk.stands_by(h) for h in range(3)], [(), (), (("ask", 1),)])
        self.assertEqual(talk.waiting(), ())
        self.assertIs(talk.is_quiet(), False)
        self.assertEqual(talk.network(), (1,))

    def test_asking_up_the_line(self):
        talk = self.talk
        talk.post(2)
        self.assertEqual(talk.waiting(), (("ask", 1),))
        self.assertEqual(talk.known_asked(1), ())
        talk.deliver(0)
        self.assertEqual(talk.waiting(), ())
        self.assertEqual(talk.known_asked(1), (1,))
        self.assertEqual(talk.stands_by(1), (("ask", 0),))
        self.assertIs(talk.is_quiet(), False)
        talk.post(1)
        talk.deliver(0)
        self.assertEqual(talk.known_asked(0), (0,))
        self.assertEqual(talk.stands_by(0), ())
        self.assertIs(talk.is_quiet(), True)
        self.assertEqual(talk.network(), (0, 1))

    def test_lost_letters(self):
        talk = self.talk
        talk.post(2)
        talk.lose(0)
        self.assertEqual((talk.waiting(), talk.known_asked(1)), ((), ()))
        self.assertEqual(talk.stands_by(2), (("ask", 1),))
        talk.post(2)
        talk.deliver(0)
        self.assertEqual(talk.known_asked(1), (1,))

    def test_doubled_letters(self):
        talk = self.talk
        talk.post(2)
        talk.double(0)
        talk.post(2)
        self.assertEqual(talk.waiting(), (("ask", 1),) * 3)
        talk.deliver(1)
        self.assertEqual(talk.known_asked(1), (1,))
        before = [talk.stands_by(h) for h in range(3)]
        talk.deliver(1)
        talk.lose(0)
        self.assertEqual(talk.waiting(), ())
        self.assertEqual([talk.stands_by(h) for h in range(3)], before)
        self.assertEqual(talk.known_asked(1), (1,))

    def test_results_are_none(self):
        talk = self.talk
        for result in (talk.post(2), talk.double(0), talk.lose(0), talk.deliver(0)):
            self.assertIsNone(result)


class LettersTest(unittest.TestCase):
    def test_a_seller_withdraws(self):
        talk = Talk(hub(0, 3, ("sides", 0, (), 1, (2, 0, 1))))
        self.assertEqual(talk.stands_by(2), (("ask", 0), ("ask", 1), ("ask", 2)))
        talk.post(2)
        talk.deliver(0)
        self.assertEqual(talk.stands_by(0), ())
        talk.deliver(0)
        self.assertEqual(talk.stands_by(0), (("withdraw", 1),))
        self.assertEqual(talk.network(), (0, 2))
        talk.deliver(0)
        self.assertEqual(talk.stands_by(0), (("withdraw", 0), ("withdraw", 1)))
        self.assertIs(talk.is_quiet(), False)
        talk.post(0)
        self.assertEqual(talk.waiting(), (("withdraw", 0), ("withdraw", 1)))
        talk.deliver(1)
        self.assertEqual(talk.known_open(2), (0, 2))
        # What was ever asked for is stood by, though it is not open any more.
        self.assertEqual(talk.stands_by(2), (("ask", 0), ("ask", 1), ("ask", 2)))
        self.assertIs(talk.is_quiet(), False)
        talk.deliver(0)
        self.assertEqual(talk.known_open(2), (2,))
        self.assertIs(talk.is_quiet(), True)
        self.assertEqual(talk.network(), (2,))

    def test_a_buyer_asks_for_the_next_one(self):
        web = hub(3, 0, ("sides", 1, (1, 2, 0), 0, ()))
        web = ((web[0][0], ("farm", ("sides", 0, (), 3, (0, 2))), web[0][2]), web[1])
        talk = Talk(web)
        self.assertEqual(talk.stands_by(0), (("ask", 1),))
        talk.post(0)
        talk.deliver(0)
        self.assertEqual(talk.stands_by(1), (("withdraw", 1),))
        talk.post(1)
        talk.deliver(0)
        self.assertEqual(talk.stands_by(0), (("ask", 1), ("ask", 2)))
        talk.post(0)
        self.assertEqual(talk.waiting(), (("ask", 1), ("ask", 2)))
        talk.deliver(1)
        self.assertIs(talk.is_quiet(), True)
        self.assertEqual(talk.network(), (2,))
        self.assertEqual(network_of(best_for_buyers(web)), (2,))

    def test_posting_is_in_order_of_contracts(self):
        web = hub(2, 2, ("sides", 2, (1, 0), 0, (3,)))
        contracts = (web[1][2], web[1][0], web[1][3], web[1][1])
        houses = (("hub", ("sides", 2, (3, 1), 0, (2,))), ("farm", ("sides", 0, (), 2, (1, 3))),
                  ("shop", ("sides", 2, (0, 2), 0, ())))
        talk = Talk((houses, contracts))
        talk.post(2)
        talk.deliver(1)
        talk.deliver(0)
        self.assertEqual(talk.stands_by(0), (("withdraw", 0), ("ask", 1), ("withdraw", 2), ("ask", 3)))
        talk.post(2)
        talk.post(0)
        self.assertEqual(talk.waiting(), (("ask", 0), ("ask", 2)) + talk.stands_by(0))

    def test_no_such_letter(self):
        for web, posts in ((line_web(), 0), (line_web(), 1), (two_rests(), 2)):
            talk = Talk(web)
            for house in range(len(web[0])):
                for _ in range(posts):
                    talk.post(house)
            many = len(talk.waiting())
            before = (talk.waiting(), [talk.known_asked(h) + talk.stands_by(h) for h in range(len(web[0]))])
            for index in (-1, many, many + 1, -many - 1, 10 ** 5000, -10 ** 5000):
                for act in (talk.deliver, talk.lose, talk.double):
                    with self.assertRaises(NoLetter):
                        act(index)
                    after = (talk.waiting(), [talk.known_asked(h) + talk.stands_by(h) for h in range(len(web[0]))])
                    self.assertEqual(after, before)
            if many:
                talk.double(many - 1)
                talk.lose(many)
                talk.deliver(many - 1)
                self.assertEqual(talk.waiting(), before[0][:-1])

    def test_webs_without_anything(self):
        empty = Talk(((), ()))
        self.assertEqual((empty.is_quiet(), empty.waiting(), empty.network()), (True, (), ()))
        alone = Talk(((("a", FREE),), ()))
        alone.post(0)
        self.assertEqual((alone.is_quiet(), alone.waiting(), alone.stands_by(0)), (True, (), ()))
        silent = Talk(((("a", NOTHING), ("b", NOTHING)), ((0, 1, 5),)))
        self.assertEqual((silent.is_quiet(), silent.network()), (True, ()))
        self.assertEqual((silent.known_open(0), silent.known_open(1)), ((), (0,)))

    def test_talks_share_nothing(self):
        web = line_web()
        one, other = Talk(web), Talk(web)
        one.post(2)
        one.deliver(0)
        self.assertEqual((other.waiting(), other.known_asked(1)), ((), ()))


class AnyOrderTest(unittest.TestCase):
    def webs(self):
        for seed in range(25):
            yield seed, random_web(seed, 5, 7)
            yield seed, busy_web(seed, 5, 7)
            yield seed, random_web(seed, 4, 6, (KINDS[seed % 6],))
        yield 0, two_rests()
        yield 0, double_line(5)

    def agree(self, talk, model):
        self.assertEqual(talk.waiting(), tuple(model.line))
        self.assertIs(talk.is_quiet(), model.quiet())
        for house in model.houses:
            self.assertEqual(talk.known_open(house), tuple(sorted(model.shown[house])))
            self.assertEqual(talk.known_asked(house), tuple(sorted(model.asked[house])))
            self.assertEqual(talk.stands_by(house), tuple(model.written(house)))

    def within_the_greatest_stand(self, web, talk):
        shown, asked = best_for_buyers(web)
        letters = [letter for house in range(len(web[0])) for letter in talk.stands_by(house)]
        asks = {x for kind, x in letters if kind == "ask"}
        gone = {x for kind, x in letters if kind == "withdraw"}
        self.assertLessEqual(asks, set(asked))
        self.assertFalse(gone & set(shown))
        self.assertEqual(talk.network(), tuple(sorted(asks - gone)))
        if talk.is_quiet():
            self.assertEqual(talk.network(), network_of((shown, asked)))
            self.assertEqual(set(range(len(web[1]))) - gone, set(shown))

    def test_letters_in_any_order(self):
        quiet = 0
        for seed, web in self.webs():
            rng = random.Random(seed)
            talk, model = Talk(web), ModelOfTalk(web)
            for _ in range(60):
                deed = rng.choice(("post", "post", "deliver", "deliver", "deliver", "lose", "double"))
                if deed == "post":
                    house = rng.choice(model.houses)
                    talk.post(house)
                    model.line.extend(model.written(house))
                elif model.line:
                    index = rng.randrange(len(model.line))
                    if deed == "deliver":
                        talk.deliver(index)
                        model.deliver(index)
                    elif deed == "lose":
                        talk.lose(index)
                        del model.line[index]
                    else:
                        talk.double(index)
                        model.line.append(model.line[index])
                self.agree(talk, model)
                self.within_the_greatest_stand(web, talk)
            talk_until_quiet(talk, len(web[0]))
            self.within_the_greatest_stand(web, talk)
            quiet += talk.is_quiet()
        self.assertEqual(quiet, 77)

    def test_large_webs(self):
        for web in [layered_web(seed, 10, 3, 60) for seed in range(3)] + [double_line(30)]:
            talk = Talk(web)
            talk_until_quiet(talk, 30)
            self.within_the_greatest_stand(web, talk)

    def test_a_house_with_buys_and_sells_by_turns(self):
        web = hub(2, 2, ("maker", 1, (1, 0), (3, 2)))
        self.assertEqual((buys_of(web, 0), sells_of(web, 0)), ((0, 1), (2, 3)))
        talk = Talk(web)
        self.assertEqual(talk.stands_by(0), ())
        talk.post(2)
        talk.deliver(0)
        self.assertEqual(talk.stands_by(0), (("ask", 1),))
        talk.deliver(0)
        self.assertEqual(talk.stands_by(0), (("ask", 1), ("withdraw", 2)))
        self.assertEqual(talk.network(), (1, 3))


if __name__ == "__main__":
    unittest.main()
