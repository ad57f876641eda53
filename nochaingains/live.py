"""Webs whose choices have no cancelled contracts."""

from nochaingains.renumbering import renumbered
from nochaingains.sets import minus
from nochaingains.webs import all_contracts


def live_web_of(web, cancelled):
    """The web without the cancelled contracts in its choices; the contracts keep their numbers."""
    houses, contracts = web
    numbers = {contract: contract for contract in minus(all_contracts(web), cancelled)}
    return (tuple([(name, renumbered(choice, numbers)) for name, choice in houses]), contracts)
