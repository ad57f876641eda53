"""Derivations: letters that show which contracts are in no network at rest; sure and possible contracts."""

from nochaingains.allofthem import all_at_rest
from nochaingains.letters import right_letters, writer_of
from nochaingains.sets import common, union
from nochaingains.webs import all_contracts


def is_right_derivation(web, letters):
    """True if each letter is so by those before it, and none is there twice."""
    before = {}
    for letter in letters:
        if letter in before or letter not in right_letters(web, writer_of(web, letter), before):
            return False
        before[letter] = True
    return True


def told_derivation(web):
    """The derivation in which the houses write by rounds, in ascending order, all that they can."""
    houses, _ = web
    # A dict keeps the order of its keys, also if one is put in again.
    told = {}
    many = -1
    while len(told) > many:
        many = len(told)
        for house in range(len(houses)):
            letters = right_letters(web, house, told)
            for letter in letters:
                told[letter] = True
    return tuple(told)


def sure_contracts(web):
    """The contracts that are in every network at rest."""
    sure = all_contracts(web)
    for network in all_at_rest(web):
        sure = common(sure, network)
    return sure


def possible_contracts(web):
    """The contracts that are in some network at rest."""
    possible = ()
    for network in all_at_rest(web):
        possible = union(possible, network)
    return possible
