"""Webs for the tests: small ones by hand, and random ones from a fixed seed."""

import random

from nochaingains.choices import least_break

FREE = ("sides", 9, (), 9, ())


def hub(buys, sells, choice, prices=None):
    """A web whose house 0 has the choice and first so many buys, then so many sells."""
    many = buys + sells
    prices = prices if prices is not None else (5,) * many
    contracts = [(1, 0, prices[k]) for k in range(buys)]
    contracts += [(0, 2, prices[k]) for k in range(buys, many)]
    houses = (("hub", choice), ("farm", ("sides", 0, (), many, tuple(range(buys)))),
              ("shop", ("sides", many, tuple(range(buys, many)), 0, ())))
    return (houses, tuple(contracts))


def line_web():
    """farm -> mill -> shop, the mill passing on what it buys."""
    farm = ("farm", ("sides", 0, (), 1, (0,)))
    mill = ("mill", ("maker", 1, (0,), (1,)))
    shop = ("shop", ("sides", 1, (1,), 0, ()))
    return ((farm, mill, shop), ((0, 1, 5), (1, 2, 9)))


def two_rests():
    """Two sellers and two buyers with opposite wishes: two networks at rest."""
    houses = (
        ("a", ("sides", 0, (), 1, (0, 1))), ("b", ("sides", 0, (), 1, (3, 2))),
        ("c", ("sides", 1, (2, 0), 0, ())), ("d", ("sides", 1, (1, 3), 0, ())),
    )
    return (houses, ((0, 2, 5), (0, 3, 5), (1, 2, 5), (1, 3, 5)))


def name_of(house):
    letters = "abcdefghijklmnopqrstuvwxyz"
    return "h" + letters[house // 26] + letters[house % 26]


def some_of(rng, contracts):
    return [c for c in contracts if rng.random() < 0.85]


def wishes(rng, contracts):
    found = some_of(rng, contracts)
    rng.shuffle(found)
    return tuple(found)


def groups(rng, contracts):
    found = []
    for _ in range(rng.randint(0, 4)):
        group = tuple(sorted(c for c in contracts if rng.random() < 0.6))
        inside = set(group)
        fits = all(not inside & set(g) or inside <= set(g) or set(g) <= inside for g, _ in found)
        if group and fits:
            found.append((group, rng.randint(0, 2)))
    return tuple(found)


def table(rng, contracts):
    rows = set()
    for _ in range(rng.randint(0, 7)):
        row = tuple(sorted(rng.sample(contracts, rng.randint(1, min(3, len(contracts)))))) if contracts else ()
        if row:
            rows.add(row)
    rows = sorted(rows)
    rng.shuffle(rows)
    return ("table", tuple(rows))


def additive_table(rng, contracts, room):
    """All sets of at most so many contracts, the most valuable first: such a table holds together."""
    worth = {c: 1 << k for k, c in enumerate(rng.sample(contracts, len(contracts)))}
    rows = [tuple(c for k, c in enumerate(contracts) if mask >> k & 1) for mask in range(1, 1 << len(contracts))]
    rows = [row for row in rows if len(row) <= room]
    rows.sort(key=lambda row: -sum(worth[c] for c in row))
    return ("table", tuple(rows))


def plain_choice(rng, kind, buys, sells):
    if kind == "maker":
        return (kind, rng.randint(0, 3), wishes(rng, buys), wishes(rng, sells))
    if kind == "sides":
        return (kind, rng.randint(0, 3), wishes(rng, buys), rng.randint(0, 3), wishes(rng, sells))
    if kind == "trader":
        return (kind, rng.randint(0, 3), rng.randint(-3, 3), tuple(some_of(rng, buys)), tuple(some_of(rng, sells)))
    if kind == "caps":
        return (kind, wishes(rng, buys), groups(rng, buys), wishes(rng, sells), groups(rng, sells))
    own = sorted(buys + sells)
    if own and len(own) <= 4 and rng.random() < 0.3:
        return additive_table(rng, own, rng.randint(1, 2))
    return table(rng, own)


KINDS = ("maker", "sides", "trader", "caps", "table", "split")


def any_choice(rng, buys, sells, kinds=KINDS):
    kind = rng.choice(kinds)
    if kind != "split":
        return plain_choice(rng, kind, buys, sells)
    parts = []
    many = rng.randint(0, 3)
    place = {c: rng.randint(0, many) for c in buys + sells}
    for part in range(many):
        near = [c for c in buys if place[c] == part]
        far = [c for c in sells if place[c] == part]
        parts.append(plain_choice(rng, rng.choice([k for k in kinds if k != "split"] or KINDS[:5]), near, far))
    return ("split", tuple(parts))


def with_choices(rng, names, contracts, kinds, sound):
    """A web with these contracts and random choices, each of which holds together if asked for."""
    houses = [(name, FREE) for name in names]
    for house, name in enumerate(names):
        buys = [c for c, row in enumerate(contracts) if row[1] == house]
        sells = [c for c, row in enumerate(contracts) if row[0] == house]
        while True:
            houses[house] = (name, any_choice(rng, buys, sells, kinds))
            if not sound or least_break((tuple(houses), contracts), house) is None:
                break
    return (tuple(houses), contracts)


def random_web(seed, houses=5, contracts=6, kinds=KINDS, sound=True):
    """A right web; the numbers of the houses tell nothing of who sells to whom."""
    rng = random.Random(seed)
    order = list(range(houses))
    rng.shuffle(order)
    rows = []
    for _ in range(contracts):
        one, other = sorted(rng.sample(range(houses), 2))
        rows.append((order[one], order[other], rng.randint(-2, 6)))
    return with_choices(rng, [name_of(k) for k in range(houses)], tuple(rows), kinds, sound)


def passing_choice(rng, buys, sells):
    """A choice of a house between others that rarely takes a contract alone, so that long chains gain."""
    buys = tuple(rng.sample(buys, len(buys)))
    sells = tuple(rng.sample(sells, len(sells)))
    room = rng.randint(1, 2)
    maker = ("maker", room, buys, sells)
    trader = ("trader", room, rng.randint(-9, 1), tuple(sorted(buys)), tuple(sorted(sells)))
    pairs = tuple(tuple(sorted((buy, sell))) for buy in buys for sell in sells)
    return rng.choice((maker, trader, ("table", pairs), ("split", (maker,))))


def busy_web(seed, houses=5, contracts=6):
    """A sound web of houses that pass on what they buy, with an end buyer and an end seller or more."""
    rng = random.Random(seed)
    order = rng.sample(range(houses), houses)
    rows = []
    for number in range(contracts):
        place = number if number < houses - 1 else rng.randrange(houses - 1)
        # A few sales leave out a house, so that chains of different lengths lead to the same end.
        step = rng.choice((1, 1, 2)) if place < houses - 2 and number >= houses - 1 else 1
        rows.append((order[place], order[place + step], rng.randint(-2, 6)))
    rng.shuffle(rows)
    changed = []
    for house in range(houses):
        buys = [c for c, row in enumerate(rows) if row[1] == house]
        sells = [c for c, row in enumerate(rows) if row[0] == house]
        if buys and sells:
            choice = passing_choice(rng, buys, sells)
        else:
            choice = ("sides", rng.randint(1, 2), tuple(buys), rng.randint(1, 2), tuple(sells))
        changed.append((name_of(house), choice))
    return (tuple(changed), tuple(rows))


def layered_web(seed, layers, width, contracts, kinds=("maker", "trader", "sides", "caps")):
    """A large sound web: layers of houses, several contracts between one layer and the next."""
    rng = random.Random(seed)
    rows = []
    for number in range(contracts):
        layer = number % (layers - 1)
        seller = layer * width + rng.randrange(width)
        buyer = (layer + 1) * width + rng.randrange(width)
        rows.append((seller, buyer, layer * 2 + rng.randint(0, 3)))
    return with_choices(rng, [name_of(k) for k in range(layers * width)], tuple(rows), kinds, True)


def double_line(houses, split=False):
    """A line of houses with two contracts between each one and the next: 2 ** (houses - 1) chains gain."""
    found = []
    for house in range(houses):
        buys = (2 * house - 2, 2 * house - 1) if house > 0 else ()
        sells = (2 * house, 2 * house + 1) if house < houses - 1 else ()
        if buys and sells:
            choice = ("maker", 1, buys, sells)
        else:
            choice = ("sides", 1, buys, 1, sells)
        found.append((name_of(house), ("split", (choice,)) if split else choice))
    contracts = tuple((k // 2, k // 2 + 1, k) for k in range(2 * houses - 2))
    return (tuple(found), contracts)
