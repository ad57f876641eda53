"""The words of the document, tried out case by case, without the program's own ways."""

from itertools import chain, combinations, permutations

from nochaingains.choices import choose


def all_sets(contracts):
    contracts = sorted(contracts)
    return [row for size in range(len(contracts) + 1) for row in combinations(contracts, size)]


def own(web, house):
    return tuple(c for c, (seller, buyer, _) in enumerate(web[1]) if house in (seller, buyer))


def side_of(web, house, contract):
    return "buy" if web[1][contract][1] == house else "sell"


def plain_out_of(web, choice, offered):
    """What a choice that is not split chooses (point [7])."""
    price = {c: row[2] for c, row in enumerate(web[1])}
    offered = set(offered)
    if choice[0] == "maker":
        _, room, buys, sells = choice
        buys = [c for c in buys if c in offered]
        sells = [c for c in sells if c in offered]
        k = min(room, len(buys), len(sells))
        return set(buys[:k]) | set(sells[:k])
    if choice[0] == "sides":
        _, buyroom, buys, sellroom, sells = choice
        buys = [c for c in buys if c in offered]
        sells = [c for c in sells if c in offered]
        return set(buys[:buyroom]) | set(sells[:sellroom])
    if choice[0] == "table":
        return set(next((row for row in choice[1] if set(row) <= offered), ()))
    if choice[0] == "trader":
        _, room, cost, buys, sells = choice
        buys = sorted((c for c in buys if c in offered), key=lambda c: (price[c], c))
        sells = sorted((c for c in sells if c in offered), key=lambda c: (-price[c], c))
        ks = [k for k in range(1, min(room, len(buys), len(sells)) + 1)
              if price[sells[k - 1]] > price[buys[k - 1]] + cost]
        k = max(ks, default=0)
        return set(buys[:k]) | set(sells[:k])
    _, buys, buygroups, sells, sellgroups = choice
    chosen = set()
    for wanted, groups in ((buys, buygroups), (sells, sellgroups)):
        for c in wanted:
            if c in offered and all(len(chosen & set(g)) < cap for g, cap in groups if c in g):
                chosen.add(c)
    return chosen


def out_of(web, house, offered):
    choice = web[0][house][1]
    parts = choice[1] if choice[0] == "split" else (choice,)
    return tuple(sorted(set().union(*[plain_out_of(web, part, offered) for part in parts])))


def first_break(web, house):
    """The least break of point [10] among all sets of own contracts."""
    everything = own(web, house)
    for y in all_sets(everything):
        for z in everything:
            if z in y:
                continue
            before = out_of(web, house, y)
            after = out_of(web, house, y + (z,))
            for x in y:
                if side_of(web, house, x) == side_of(web, house, z):
                    if x not in before and x in after:
                        return (y, z, x)
                elif x in before and x not in after:
                    return (y, z, x)
    return None


def first_unsteady(web, house):
    """The least break of point [11]."""
    everything = own(web, house)
    for y in all_sets(everything):
        for z in everything:
            if z in y:
                continue
            grown = {"buy": 0, "sell": 0}
            for c in out_of(web, house, y + (z,)):
                grown[side_of(web, house, c)] += 1
            for c in out_of(web, house, y):
                grown[side_of(web, house, c)] -= 1
            same = side_of(web, house, z)
            other = "sell" if same == "buy" else "buy"
            if grown[same] < grown[other]:
                return (y, z)
    return None


def kept(web, network):
    return all(
        choose(web, h, network) == tuple(c for c in network if c in own(web, h)) for h in range(len(web[0]))
    )


def gains(web, network, lot):
    for house in range(len(web[0])):
        theirs = set(own(web, house)) & set(lot)
        if theirs and not theirs <= set(choose(web, house, tuple(sorted(set(network) | set(lot))))):
            return False
    return bool(lot)


def lots(web, network):
    return [lot for lot in all_sets(set(range(len(web[1]))) - set(network)) if lot]


def at_rest(web, network):
    return kept(web, network) and not any(gains(web, network, lot) for lot in lots(web, network))


def chains(web, outside):
    """All chains of the contracts, by trying all orders of all of their sets."""
    rows = web[1]
    orders = chain.from_iterable(permutations(lot) for lot in all_sets(outside) if lot)
    return sorted(
        (row for row in orders if all(rows[a][1] == rows[b][0] for a, b in zip(row, row[1:]))),
        key=lambda row: (len(row), row),
    )


def gaining(web, network):
    outside = set(range(len(web[1]))) - set(network)
    return tuple(row for row in chains(web, outside) if gains(web, network, row))


def next_of(web, stand):
    """The next stand, contract by contract (point [23])."""
    shown, asked = set(stand[0]), set(stand[1])
    picks = {}
    for house in range(len(web[0])):
        known = [c for c in own(web, house) if c in (shown if side_of(web, house, c) == "buy" else asked)]
        picks[house] = choose(web, house, tuple(known))
    everything = range(len(web[1]))
    asked2 = tuple(c for c in everything if c not in shown or c in picks[web[1][c][1]])
    shown2 = tuple(c for c in everything if c not in asked or c in picks[web[1][c][0]])
    return (shown2, asked2)


def all_stands(web):
    sets = all_sets(range(len(web[1])))
    return [(shown, asked) for shown in sets for asked in sets]


def at_most(one, other):
    return set(one[0]) <= set(other[0]) and set(one[1]) >= set(other[1])


def right_offers(web, network, offers):
    """Point [20], by its words."""
    shown = set(offers)
    asked = set(network) | (set(range(len(web[1]))) - shown)
    if not set(network) <= shown:
        return False
    for house in range(len(web[0])):
        known = [c for c in own(web, house) if c in (shown if side_of(web, house, c) == "buy" else asked)]
        if set(choose(web, house, tuple(known))) != set(own(web, house)) & set(network):
            return False
    return True
