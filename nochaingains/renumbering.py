"""Choices whose contracts get other numbers, or are left out."""


def renumbered(choice, numbers):
    """The choice with the new numbers of its contracts; those that have none are left out.

    Lists keep their order. Rows of tables that lack a contract are left out, and so are empty groups.
    """
    match choice:
        case ("maker", room, buys, sells):
            return ("maker", room, _kept(buys, numbers), _kept(sells, numbers))
        case ("sides", buyroom, buys, sellroom, sells):
            return ("sides", buyroom, _kept(buys, numbers), sellroom, _kept(sells, numbers))
        case ("table", rows):
            return ("table", _kept_rows(rows, numbers))
        case ("trader", room, cost, buys, sells):
            return ("trader", room, cost, _kept(buys, numbers), _kept(sells, numbers))
        case ("caps", buys, buygroups, sells, sellgroups):
            near = (_kept(buys, numbers), _kept_groups(buygroups, numbers))
            far = (_kept(sells, numbers), _kept_groups(sellgroups, numbers))
            return ("caps",) + near + far
        case ("split", parts):
            return ("split", _renumbered_parts(parts, numbers))


def _kept(contracts, numbers):
    return tuple([numbers[contract] for contract in contracts if contract in numbers])


def _kept_rows(rows, numbers):
    whole = [row for row in rows if all([contract in numbers for contract in row])]
    return tuple([_kept(row, numbers) for row in whole])


def _kept_groups(groups, numbers):
    kept = [(_kept(group, numbers), cap) for group, cap in groups]
    return tuple([(group, cap) for group, cap in kept if group != ()])


def _renumbered_parts(parts, numbers):
    return tuple([renumbered(part, numbers) for part in parts])
