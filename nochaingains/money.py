"""The profits of houses in networks."""

from nochaingains.sets import common
from nochaingains.shapes import parts_in
from nochaingains.webs import buys_of, sells_of


def profit(web, house, network):
    """What the house earns by its sells in the network, less what it pays for its buys and as costs."""
    houses, contracts = web
    _, choice = houses[house]
    earned = sum([contracts[sell][2] for sell in common(sells_of(web, house), network)])
    paid = sum([contracts[buy][2] for buy in common(buys_of(web, house), network)])
    return earned - paid - sum([_costs(part, network) for part in parts_in(choice)])


def _costs(part, network):
    match part:
        case ("trader", _, cost, buys, _):
            return cost * len(common(buys, network))
        case _:
            return 0
