"""Webs whose choices have no cancelled contracts."""


def live_web_of(web, cancelled):
    """The web without the cancelled contracts in its choices; the contracts keep their numbers."""
    houses, contracts = web
    return (tuple([(name, _live_choice(choice, cancelled)) for name, choice in houses]), contracts)


def _live_choice(choice, cancelled):
    match choice:
        case ("maker", room, buys, sells):
            return ("maker", room, _live(buys, cancelled), _live(sells, cancelled))
        case ("sides", buyroom, buys, sellroom, sells):
            return ("sides", buyroom, _live(buys, cancelled), sellroom, _live(sells, cancelled))
        case ("table", rows):
            return ("table", _live_rows(rows, cancelled))
        case ("trader", room, cost, buys, sells):
            return ("trader", room, cost, _live(buys, cancelled), _live(sells, cancelled))
        case ("caps", buys, buygroups, sells, sellgroups):
            near = (_live(buys, cancelled), _live_groups(buygroups, cancelled))
            far = (_live(sells, cancelled), _live_groups(sellgroups, cancelled))
            return ("caps",) + near + far
        case ("split", parts):
            return ("split", _live_parts(parts, cancelled))


def _live(contracts, cancelled):
    """The contracts that are not cancelled, in their order."""
    return tuple([contract for contract in contracts if contract not in cancelled])


def _live_rows(rows, cancelled):
    return tuple([row for row in rows if _live(row, cancelled) == row])


def _live_groups(groups, cancelled):
    left = [(_live(group, cancelled), cap) for group, cap in groups]
    return tuple([(group, cap) for group, cap in left if group != ()])


def _live_parts(parts, cancelled):
    return tuple([_live_choice(part, cancelled) for part in parts])
