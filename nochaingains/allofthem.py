"""All networks at rest and all settled stands of a small web."""

from nochaingains.choices import choose
from nochaingains.sets import common, minus, subsets, union
from nochaingains.stands import network_of
from nochaingains.webs import buys_of, sellers_first, sells_of


def all_at_rest(web):
    """All networks at rest: fewer contracts first, then as tuples."""
    # The networks at rest are those for which some offers are right.
    networks = [network_of(stand) for stand in all_settled(web)]
    ranked = sorted({(len(network), network) for network in networks})
    return tuple([network for _, network in ranked])


def all_settled(web):
    """All settled stands, in ascending order as tuples."""
    # What is asked of a house is told by those that buy from it. So if each house
    # comes before its sellers, what is open to it tells all that it asks for.
    stands = [((), ())]
    for house in sellers_first(web)[::-1]:
        stands = [grown for stand in stands for grown in _with_buys(web, house, stand)]
    return tuple(sorted(stands))


def _with_buys(web, house, stand):
    """The stands with the house's buys put in, behind all its sells, in which these are settled."""
    to_buyers, to_sellers = stand
    buys = buys_of(web, house)
    sells = sells_of(web, house)
    asked = common(sells, to_sellers)
    found = []
    for shown in subsets(buys):
        chosen = choose(web, house, union(shown, asked))
        if union(minus(sells, asked), common(sells, chosen)) == common(sells, to_buyers):
            wanted = union(minus(buys, shown), common(buys, chosen))
            found.append((union(to_buyers, shown), union(to_sellers, wanted)))
    return found
