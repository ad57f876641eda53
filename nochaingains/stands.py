"""Stands: what is open to buyers and to sellers, and how it settles."""

from nochaingains.choices import choose
from nochaingains.sets import common, minus, union
from nochaingains.webs import all_contracts, buys_of, sells_of


def next_stand(web, stand):
    """The next stand of a stand."""
    houses, _ = web
    to_buyers, to_sellers = stand
    next_to_buyers = minus(all_contracts(web), to_sellers)
    next_to_sellers = minus(all_contracts(web), to_buyers)
    for house in range(len(houses)):
        buys = buys_of(web, house)
        sells = sells_of(web, house)
        chosen = choose(web, house, union(common(buys, to_buyers), common(sells, to_sellers)))
        next_to_buyers = union(next_to_buyers, common(sells, chosen))
        next_to_sellers = union(next_to_sellers, common(buys, chosen))
    return (next_to_buyers, next_to_sellers)


def is_settled(web, stand):
    """True if the stand is its own next stand."""
    return next_stand(web, stand) == stand


def network_of(stand):
    """The network of a stand: the contracts that are in both of its sets."""
    to_buyers, to_sellers = stand
    return common(to_buyers, to_sellers)


def best_for_buyers(web):
    """The greatest settled stand."""
    return settled_from(web, (all_contracts(web), ()))


def best_for_sellers(web):
    """The least settled stand."""
    return settled_from(web, ((), all_contracts(web)))


def join(web, one, other):
    """The least of the settled stands that both settled stands are at most."""
    return settled_from(web, (union(one[0], other[0]), common(one[1], other[1])))


def meet(web, one, other):
    """The greatest of the settled stands that are at most each of the two settled ones."""
    return settled_from(web, (common(one[0], other[0]), union(one[1], other[1])))


def settled_from(web, stand):
    """The settled stand to which the next stands from the stand come, if they all go down or all go up."""
    following = next_stand(web, stand)
    while following != stand:
        stand = following
        following = next_stand(web, stand)
    return stand
