"""What a house chooses, what a choice mentions, and whether choices hold together."""

from nochaingains.shapes import mentioned_in, parts_in


def choose(web, house, offered):
    """What the house chooses out of a set of contracts."""
    houses, contracts = web
    _, choice = houses[house]
    return _chosen_by(choice, contracts, offered)


def mentioned(choice):
    """The contracts that a choice mentions, a set."""
    return tuple(sorted({contract for part in parts_in(choice) for contract in mentioned_in(part)}))


def _chosen_by(choice, contracts, offered):
    present = {contract: True for contract in offered}
    chosen = []
    for part in parts_in(choice):
        chooser = CHOOSERS[part[0]]
        chosen.extend(chooser(part, contracts, present))
    return tuple(sorted(chosen))


def _wanted_in(wanted, present):
    return [contract for contract in wanted if contract in present]


def _maker_chooses(choice, contracts, present):
    _, room, buys, sells = choice
    near = _wanted_in(buys, present)
    far = _wanted_in(sells, present)
    many = min(room, len(near), len(far))
    return near[:many] + far[:many]


def _sides_choose(choice, contracts, present):
    _, buyroom, buys, sellroom, sells = choice
    return _wanted_in(buys, present)[:buyroom] + _wanted_in(sells, present)[:sellroom]


def _table_chooses(choice, contracts, present):
    _, rows = choice
    for row in rows:
        for contract in row:
            if contract not in present:
                break
        else:
            return list(row)
    return []


def _trader_chooses(choice, contracts, present):
    _, room, cost, buys, sells = choice
    cheapest = sorted([(contracts[buy][2], buy) for buy in _wanted_in(buys, present)])
    dearest = sorted([(-contracts[sell][2], sell) for sell in _wanted_in(sells, present)])
    chosen = []
    # Buys only get dearer and sells cheaper: behind a pair without profit there is none with one.
    for (paid, buy), (opposite, sell) in zip(cheapest[:room], dearest):
        if -opposite <= paid + cost:
            break
        chosen.extend([buy, sell])
    return chosen


def _caps_choose(choice, contracts, present):
    _, buys, buygroups, sells, sellgroups = choice
    return _capped(_wanted_in(buys, present), buygroups) + _capped(_wanted_in(sells, present), sellgroups)


def _capped(wanted, groups):
    """The contracts, the best one first, that no cap of a group keeps out."""
    around = {contract: [] for contract in wanted}
    for number, (group, _) in enumerate(groups):
        for contract in _wanted_in(group, around):
            around[contract].append(number)
    left = [cap for _, cap in groups]
    chosen = []
    for contract in wanted:
        if all([left[number] > 0 for number in around[contract]]):
            chosen.append(contract)
            for number in around[contract]:
                left[number] -= 1
    return chosen


CHOOSERS = {
    "maker": _maker_chooses,
    "sides": _sides_choose,
    "table": _table_chooses,
    "trader": _trader_chooses,
    "caps": _caps_choose,
}


def least_break(web, house):
    """The least break (Y, z, x) of the house's choice, or None if it holds together."""
    return _least_over_parts(web, house, _part_break)


def least_unsteady(web, house):
    """The least pair (Y, z) that shows that the house's choice is not steady, or None if it is."""
    return _least_over_parts(web, house, _part_unsteady)


def _least_over_parts(web, house, search):
    # A contract that is put in changes only what the part that mentions it
    # chooses, so the least break has no contract that another part mentions,
    # and none that no part mentions. Choices that are not tables have none.
    houses, contracts = web
    _, choice = houses[house]
    tables = [part for part in parts_in(choice) if part[0] == "table"]
    breaks = [search(table, contracts, house) for table in tables]
    found = [(len(least[0]), least) for least in breaks if least is not None]
    if found == []:
        return None
    _, least = min(found)
    return least


def _part_break(part, contracts, house):
    for offered, extra, before, after in _growths(part):
        for contract in offered:
            if (contracts[contract][1] == house) == (contracts[extra][1] == house):
                against = contract not in before and contract in after
            else:
                against = contract in before and contract not in after
            if against:
                return (offered, extra, contract)
    return None


def _part_unsteady(part, contracts, house):
    for offered, extra, before, after in _growths(part):
        more_buys = _many_buys(after, contracts, house) - _many_buys(before, contracts, house)
        more_sells = len(after) - len(before) - more_buys
        if contracts[extra][1] == house:
            steady = more_buys >= more_sells
        else:
            steady = more_sells >= more_buys
        if not steady:
            return (offered, extra)
    return None


def _many_buys(chosen, contracts, house):
    return len([contract for contract in chosen if contracts[contract][1] == house])


def _growths(table):
    """The (Y, z, row out of Y, other row out of Y with z) among which the least breaks are, the least first.

    If z brings another row, it does so as well where Y has no more than the two
    rows without z. So one Y for each two rows and z is enough, however many
    contracts the table mentions.
    """
    _, rows = table
    own = mentioned_in(table)
    bits = {contract: 1 << place for place, contract in enumerate(own)}
    # The empty row, which lies within every set, is the worst one.
    ranked = list(rows) + [()]
    masks = [sum([bits[contract] for contract in row]) for row in ranked]
    found = []
    for after, mask in enumerate(masks):
        for before in range(after + 1, len(masks)):
            together = mask | masks[before]
            if _first_within(masks, together) != after:
                continue
            for extra in ranked[after]:
                left = together - bits[extra]
                if extra not in ranked[before] and _first_within(masks, left) == before:
                    offered = tuple([contract for contract in own if left & bits[contract]])
                    found.append((len(offered), offered, extra, ranked[before], ranked[after]))
    return [row[1:] for row in sorted(found)]


def _first_within(masks, offered):
    for place, mask in enumerate(masks):
        if mask & offered == mask:
            return place
    return None


def is_sound(web):
    """True if the choices of all houses of a right web hold together."""
    houses, _ = web
    return all([least_break(web, house) is None for house in range(len(houses))])


def is_steady(web):
    """True if a right web is sound and all its choices are steady."""
    houses, _ = web
    return is_sound(web) and all([least_unsteady(web, house) is None for house in range(len(houses))])
