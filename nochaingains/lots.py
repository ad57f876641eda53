"""Lots that gain on networks, also in webs that are not sound, where chains tell less."""

from itertools import combinations

from nochaingains.networks import is_kept, lot_gains
from nochaingains.sets import minus
from nochaingains.webs import all_contracts


def least_lot(web, network):
    """The least gaining lot on a network, kept or not, or None if no lot gains."""
    for lot in _sets_in_order(minus(all_contracts(web), network)):
        if lot != () and lot_gains(web, network, lot):
            return lot
    return None


def all_by_lots(web):
    """All kept networks on which no lot gains: fewer contracts first, then as tuples."""
    kept = [network for network in _sets_in_order(all_contracts(web)) if is_kept(web, network)]
    return tuple([network for network in kept if least_lot(web, network) is None])


def _sets_in_order(contracts):
    """All sets of contracts within a set, in a list: fewer contracts first, then as tuples."""
    row = list(contracts)
    found = []
    for size in range(len(row) + 1):
        found.extend(list(combinations(row, size)))
    return found
