"""Offers behind networks: the told ones, the judge, and the verdict on a network."""

from nochaingains.chains import gaining_chain
from nochaingains.choices import choose
from nochaingains.networks import droppings, is_kept, own_in
from nochaingains.sets import common, minus, union
from nochaingains.webs import all_contracts, buys_of, sellers_first, sells_of


def told_offers(web, network):
    """The told offers of a network, at rest or not."""
    offers = network
    for house in sellers_first(web):
        sells = sells_of(web, house)
        known = union(common(buys_of(web, house), offers), common(sells, network))
        asked = [sell for sell in minus(sells, network) if sell in choose(web, house, union(known, (sell,)))]
        offers = union(offers, asked)
    return offers


def judge(web, network, offers):
    """True if the offers are right for the network."""
    houses, _ = web
    # Offers that lack a contract of the network fail by its buyer, who cannot choose it.
    to_sellers = union(network, minus(all_contracts(web), offers))
    for house in range(len(houses)):
        known = union(common(buys_of(web, house), offers), common(sells_of(web, house), to_sellers))
        if choose(web, house, known) != own_in(web, house, network):
            return False
    return True


def verdict(web, network):
    """What is to be said of the network: a house drops something, a chain gains, or it is at rest."""
    dropped = droppings(web, network)
    if dropped != ():
        house, _ = dropped[0]
        return ("drops", house, choose(web, house, network))
    chain = gaining_chain(web, network)
    if chain is not None:
        return ("chain", chain)
    return ("rest", told_offers(web, network))


def is_at_rest(web, network):
    """True if the network is at rest."""
    return is_kept(web, network) and gaining_chain(web, network) is None
