"""Lies: choices that a house tells instead of the one by which it likes networks."""

from itertools import permutations

from nochaingains.networks import likes
from nochaingains.stands import best_for_buyers, network_of
from nochaingains.webs import buys_of, sells_of, with_choice


def told_instead(web, house, choice):
    """The web in which the house has this choice."""
    return with_choice(web, house, choice)


def least_lie(web, house):
    """The least plain lie of an end house that gains, or None if no plain lie does."""
    by_truth = network_of(best_for_buyers(web))
    for lie in _plain_lies(web, house):
        by_lie = network_of(best_for_buyers(told_instead(web, house, lie)))
        if likes(web, house, by_lie, by_truth) and not likes(web, house, by_truth, by_lie):
            return lie
    return None


def _plain_lies(web, house):
    """All plain lies of an end house, the least first."""
    buys = list(buys_of(web, house))
    sells = list(sells_of(web, house))
    lies = []
    for room in range(len(buys + sells) + 1):
        if sells == []:
            lies.extend([("sides", room, wishes, 0, ()) for wishes in _lists_of(buys)])
        else:
            lies.extend([("sides", 0, (), room, wishes) for wishes in _lists_of(sells)])
    return lies


def _lists_of(contracts):
    """All tuples of different ones of the contracts, the shortest first, then the least."""
    found = []
    for size in range(len(contracts) + 1):
        found.extend(list(permutations(contracts, size)))
    return found
