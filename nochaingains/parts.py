"""The parts of a web that do not hang together, and the webs of the parts."""

from nochaingains.renumbering import renumbered
from nochaingains.sets import union


def parts_of(web):
    """The greatest sets of houses that hang together, ordered by their least houses."""
    houses, contracts = web
    part_of = {house: (house,) for house in range(len(houses))}
    for seller, buyer, _ in contracts:
        joined = union(part_of[seller], part_of[buyer])
        for house in joined:
            part_of[house] = joined
    # Each part is told once, where its least house comes.
    return tuple([part_of[house] for house in range(len(houses)) if part_of[house][0] == house])


def part_web(web, part):
    """The web of a part: its houses and contracts with new numbers from 0, in their order."""
    houses, contracts = web
    house_numbers = {house: number for number, house in enumerate(part)}
    kept = [contract for contract, (seller, _, _) in enumerate(contracts) if seller in house_numbers]
    numbers = {contract: number for number, contract in enumerate(kept)}
    rows = [contracts[contract] for contract in kept]
    return (
        tuple([(houses[house][0], renumbered(houses[house][1], numbers)) for house in part]),
        tuple([(house_numbers[seller], house_numbers[buyer], price) for seller, buyer, price in rows]),
    )
