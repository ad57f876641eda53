"""Ladders: houses with a cost or a value, and links with one contract for each price."""

from nochaingains.webs import buys_of, sells_of


def web_of_ladder(ladder):
    """The web of a ladder: for each link one contract for each of its prices, ascending."""
    houses, links = ladder
    rows = [(seller, buyer, price) for seller, buyer, low, high in links for price in range(low, high + 1)]
    contracts = tuple(rows)
    named = [(name, _choice_of(kind, contracts, house)) for house, (name, kind) in enumerate(houses)]
    return (tuple(named), contracts)


def _choice_of(kind, contracts, house):
    # Who buys and sells what is told by the contracts alone.
    bare = ((), contracts)
    buys = buys_of(bare, house)
    sells = sells_of(bare, house)
    match kind:
        case ("seller", units, cost):
            return ("sides", 0, (), units, _dearest_first(sells, contracts, cost))
        case ("buyer", units, value):
            return ("sides", units, _cheapest_first(buys, contracts, value), 0, ())
        case ("trader", units, cost):
            return ("trader", units, cost, buys, sells)


def _dearest_first(sells, contracts, cost):
    """The sells at prices of at least the cost; among equal prices the least number first."""
    ranked = sorted([(-contracts[sell][2], sell) for sell in sells if contracts[sell][2] >= cost])
    return tuple([sell for _, sell in ranked])


def _cheapest_first(buys, contracts, value):
    """The buys at prices of at most the value; among equal prices the least number first."""
    ranked = sorted([(contracts[buy][2], buy) for buy in buys if contracts[buy][2] <= value])
    return tuple([buy for _, buy in ranked])
