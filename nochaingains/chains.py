"""Chains of contracts, and those that gain on a network."""

from nochaingains.choices import choose
from nochaingains.sets import minus, union
from nochaingains.webs import all_contracts


def is_chain(web, contracts):
    """True if the tuple of integers is a chain of contracts of the web."""
    _, rows = web
    if len(contracts) == 0 or min(contracts) < 0 or max(contracts) >= len(rows):
        return False
    # No contract comes twice in such a row, as no ring of sales leads back to it.
    return all([rows[one][1] == rows[other][0] for one, other in zip(contracts, contracts[1:])])


def gaining_chain(web, network):
    """The least gaining chain on a network, or None if there is none."""
    return Steps(web, network, minus(all_contracts(web), network)).least_chain()


def gaining_chains(web, network):
    """All gaining chains on a network, the shortest ones first, then the least as tuples."""
    return Steps(web, network, minus(all_contracts(web), network)).chains()


def chain_within(web, network, lot):
    """A gaining chain on a network whose contracts are all in the lot, which gains on it."""
    return Steps(web, network, lot).least_chain()


class Steps:
    """The steps by which gaining chains on a network go, through some contracts outside of it.

    As no ring of sales leads back, a chain comes to each of its houses once.
    So it gains if each of them chooses the one or two contracts it has in it.
    """

    def __init__(self, web, network, outside):
        self.firsts = _chosen_alone(web, network, outside, 0)
        self.behind = {contract: _chosen_behind(web, network, outside, contract) for contract in outside}
        # How many contracts a gaining chain takes at least from each one on, it included.
        self.needed = _needed_to_end(self.behind, _chosen_alone(web, network, outside, 1))

    def least_chain(self):
        """The chain with the fewest contracts, and among these the least one; None if there is none."""
        firsts = self.leading_on(self.firsts)
        if firsts == []:
            return None
        left, contract = min([(self.needed[first], first) for first in firsts])
        chain = [contract]
        while left > 1:
            left -= 1
            contract = min([other for other in self.leading_on(self.behind[contract]) if self.needed[other] == left])
            chain.append(contract)
        return tuple(chain)

    def chains(self):
        """All chains, in order."""
        found = []
        rows = [(first,) for first in self.leading_on(self.firsts)]
        while rows:
            found.extend([row for row in rows if self.needed[row[-1]] == 1])
            rows = [row + (other,) for row in rows for other in self.leading_on(self.behind[row[-1]])]
        return tuple(found)

    def leading_on(self, contracts):
        """Those of the contracts from which a gaining chain can come to its end."""
        return [contract for contract in contracts if contract in self.needed]


def _chosen_alone(web, network, outside, side):
    """The contracts that their seller (side 0) or buyer (side 1) chooses with no other new one."""
    _, rows = web
    return [contract for contract in outside if _chooses(web, rows[contract][side], network, (contract,))]


def _chosen_behind(web, network, outside, contract):
    """The contracts that may come next behind the contract: its buyer chooses both."""
    _, rows = web
    house = rows[contract][1]
    nexts = [other for other in outside if rows[other][0] == house]
    return [other for other in nexts if _chooses(web, house, network, (contract, other))]


def _chooses(web, house, network, extra):
    return minus(extra, choose(web, house, union(network, extra))) == ()


def _needed_to_end(behind, lasts):
    needed = {contract: 1 for contract in lasts}
    length = 1
    reached = lasts
    while reached != []:
        length += 1
        left = [contract for contract in behind if contract not in needed]
        reached = [contract for contract in left if _leads_into(behind[contract], needed)]
        for contract in reached:
            needed[contract] = length
    return needed


def _leads_into(contracts, needed):
    return any([contract in needed for contract in contracts])
