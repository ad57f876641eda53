"""Sets of contracts: tuples of numbers in ascending order without duplicates."""


def union(one, other):
    """What is in one of the two sets, or in both."""
    return tuple(sorted(set(one) | set(other)))


def common(one, other):
    """What is in both sets."""
    return tuple(sorted(set(one) & set(other)))


def minus(one, other):
    """What is in the first set and not in the second one."""
    return tuple(sorted(set(one) - set(other)))


def subsets(contracts):
    """All sets of contracts that lie within a set, in a list."""
    found = [()]
    for contract in contracts:
        found = found + [row + (contract,) for row in found]
    return found
