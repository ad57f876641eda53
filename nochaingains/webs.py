"""Webs of houses and contracts: whether they are right, rings of sales, buys and sells."""

from nochaingains.checks import check_choice, is_name
from nochaingains.errors import InvalidWeb
from nochaingains.rings import ring_upwards


def check_web(web):
    """Returns None if the web is right; raises InvalidWeb otherwise."""
    houses, contracts = web
    _check_names(houses)
    _check_contracts(contracts, len(houses))
    for house, (_, choice) in enumerate(houses):
        check_choice(choice, buys_of(web, house), sells_of(web, house))
    if ring_of(web) is not None:
        raise InvalidWeb("there is a ring of sales")


def _check_names(houses):
    seen = set()
    for name, _ in houses:
        if not is_name(name):
            raise InvalidWeb("a name is not one or more letters a to z")
        if name in seen:
            raise InvalidWeb("two houses have the same name")
        seen.add(name)


def _check_contracts(contracts, many):
    for seller, buyer, _ in contracts:
        if not (0 <= seller < many and 0 <= buyer < many):
            raise InvalidWeb("a contract has a house that there is not")
        if seller == buyer:
            raise InvalidWeb("a house has a contract with itself")


def all_contracts(web):
    """The set of all contracts of the web."""
    _, contracts = web
    return tuple(range(len(contracts)))


def buys_of(web, house):
    """The contracts whose buyer the house is."""
    _, contracts = web
    return tuple([number for number, (_, buyer, _) in enumerate(contracts) if buyer == house])


def sells_of(web, house):
    """The contracts whose seller the house is."""
    _, contracts = web
    return tuple([number for number, (seller, _, _) in enumerate(contracts) if seller == house])


def with_choice(web, house, choice):
    """The web in which the house has this choice."""
    houses, contracts = web
    name, _ = houses[house]
    return (houses[:house] + ((name, choice),) + houses[house + 1:], contracts)


def ring_of(web):
    """A ring of sales as a tuple of contracts, or None if there is none."""
    houses, contracts = web
    placed = set(sellers_first(web))
    left = [house for house in range(len(houses)) if house not in placed]
    if left == []:
        return None
    # Each house that is left buys from one that is left, too, or it would be placed.
    steps = {}
    for number, (seller, buyer, _) in enumerate(contracts):
        if seller not in placed:
            steps[buyer] = (number, seller)
    return ring_upwards(steps, left[0])


def sellers_first(web):
    """The houses, each one behind all that sell to it; without those in or behind a ring of sales."""
    houses, contracts = web
    waiting = [0 for _ in houses]
    buyers = [[] for _ in houses]
    for seller, buyer, _ in contracts:
        waiting[buyer] += 1
        buyers[seller].append(buyer)
    order = []
    ready = [house for house, many in enumerate(waiting) if many == 0]
    while ready:
        house = ready.pop()
        order.append(house)
        for buyer in buyers[house]:
            waiting[buyer] -= 1
            if waiting[buyer] == 0:
                ready.append(buyer)
    return tuple(order)
