"""Mirrors: webs in which sellers are buyers and buyers are sellers."""


def mirror_of(web):
    """The mirror of a right web: its two sides exchanged, with opposite prices."""
    houses, contracts = web
    return (
        tuple([(name, _turned(choice)) for name, choice in houses]),
        tuple([(buyer, seller, -price) for seller, buyer, price in contracts]),
    )


def _turned(choice):
    match choice:
        case ("maker", room, buys, sells):
            return ("maker", room, sells, buys)
        case ("sides", buyroom, buys, sellroom, sells):
            return ("sides", sellroom, sells, buyroom, buys)
        case ("trader", room, cost, buys, sells):
            return ("trader", room, cost, sells, buys)
        case ("caps", buys, buygroups, sells, sellgroups):
            return ("caps", sells, sellgroups, buys, buygroups)
        case ("split", parts):
            return ("split", _turned_parts(parts))
        case _:
            return choice


def _turned_parts(parts):
    return tuple([_turned(part) for part in parts])
