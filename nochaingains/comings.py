"""Houses that leave, balances, and the houses at the ends of chains."""

from nochaingains.networks import trades
from nochaingains.webs import buys_of, sells_of, with_choice


def without(web, house):
    """The web in which the house wants nothing."""
    return with_choice(web, house, ("sides", 0, (), 0, ()))


def balance(web, house, network):
    """The number of the house's sells less the number of its buys in the network."""
    buys, sells = trades(web, house, network)
    return sells - buys


def end_buyers(web):
    """The houses that have buys and no sells."""
    houses, _ = web
    return tuple([house for house in range(len(houses)) if buys_of(web, house) != () and sells_of(web, house) == ()])


def end_sellers(web):
    """The houses that have sells and no buys."""
    houses, _ = web
    return tuple([house for house in range(len(houses)) if sells_of(web, house) != () and buys_of(web, house) == ()])
