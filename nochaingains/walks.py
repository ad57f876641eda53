"""Walks from network to network, by droppings and by gaining chains."""

from nochaingains.chains import gaining_chain
from nochaingains.networks import droppings, is_kept
from nochaingains.sets import minus, union


def step_from(web, network):
    """The network to which the step from a network leads, or None if it is at rest."""
    if not is_kept(web, network):
        return _without_droppings(web, network)
    chain = gaining_chain(web, network)
    if chain is None:
        return None
    return _without_droppings(web, union(network, chain))


def _without_droppings(web, network):
    """What is left of the network without all that one of its houses does not choose out of it."""
    left = network
    for _, dropped in droppings(web, network):
        left = minus(left, dropped)
    return left


def walk(web, network):
    """The told walk: to a network at rest, or until it would come to a network for the second time."""
    place = {}
    here = network
    while here is not None and here not in place:
        place[here] = len(place)
        here = step_from(web, here)
    # A dict keeps the order in which the networks were put in.
    networks = tuple(place)
    if here is None:
        return ("rest", networks)
    return ("ring", networks, place[here])
