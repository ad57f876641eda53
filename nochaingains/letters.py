"""Letters ("ask", contract) and ("withdraw", contract): who writes and gets them, and which ones are right."""

from nochaingains.choices import choose
from nochaingains.sets import union
from nochaingains.webs import buys_of, sells_of


def writer_of(web, letter):
    """The house that writes the letter."""
    seller, buyer = _houses_of(web, letter)
    return buyer if letter[0] == "ask" else seller


def receiver_of(web, letter):
    """The house that gets the letter."""
    seller, buyer = _houses_of(web, letter)
    return seller if letter[0] == "ask" else buyer


def _houses_of(web, letter):
    _, contracts = web
    return contracts[letter[1]][:2]


def right_letters(web, house, told):
    """What the house writes if the keys of told are the letters so far, in ascending order of the contracts.

    It asks for its buys that it chooses, and withdraws its sells that it was asked for and does not choose.
    """
    buys = [buy for buy in buys_of(web, house) if ("withdraw", buy) not in told]
    sells = [sell for sell in sells_of(web, house) if ("ask", sell) in told]
    chosen = choose(web, house, union(buys, sells))
    asks = [(buy, "ask") for buy in buys if buy in chosen]
    withdrawals = [(sell, "withdraw") for sell in sells if sell not in chosen]
    return [(kind, contract) for contract, kind in sorted(asks + withdrawals)]
