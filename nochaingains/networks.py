"""Networks: what houses drop from them, which lots gain on them, what houses like."""

from nochaingains.choices import choose
from nochaingains.sets import minus, union
from nochaingains.webs import buys_of, sells_of


def is_kept(web, network):
    """True if no house drops anything from the network."""
    return droppings(web, network) == ()


def droppings(web, network):
    """The pairs (house, dropped) for all houses that drop something."""
    houses, _ = web
    rows = []
    for house in range(len(houses)):
        dropped = minus(own_in(web, house, network), choose(web, house, network))
        if dropped != ():
            rows.append((house, dropped))
    return tuple(rows)


def trades(web, house, network):
    """The numbers of the house's buys and of its sells in the network."""
    own = own_in(web, house, network)
    buys = minus(own, sells_of(web, house))
    return (len(buys), len(own) - len(buys))


def lot_gains(web, network, lot):
    """True if the lot gains on the network."""
    return barring(web, network, lot) is None


def barring(web, network, lot):
    """The least house that does not choose all its contracts of the lot, with the least of these; or None."""
    houses, _ = web
    offered = union(network, lot)
    for house in range(len(houses)):
        refused = minus(own_in(web, house, lot), choose(web, house, offered))
        if refused != ():
            return (house, refused[0])
    return None


def likes(web, house, one, other):
    """True if the house likes the network one at least as much as the network other."""
    return choose(web, house, union(one, other)) == own_in(web, house, one)


def own_in(web, house, network):
    """The own contracts of the house in the network."""
    _, contracts = web
    return tuple([number for number in network if house in contracts[number][:2]])
