"""Two houses merged into one, and one house parted into several."""

from nochaingains.errors import InvalidWeb
from nochaingains.renumbering import renumbered
from nochaingains.shapes import mentioned_in, parts_in
from nochaingains.webs import buys_of, check_web, sells_of, with_choice

LETTERS = "abcdefghijklmnopqrstuvwxyz"


def merged(web, one, other):
    """The web in which the first house has the parts and the contracts of both, and the other one is gone."""
    houses, contracts = web
    parts = parts_in(houses[one][1]) + parts_in(houses[other][1])
    changed, _ = with_choice(web, one, ("split", parts))
    numbers = {house: house - 1 if house > other else house for house in range(len(houses))}
    numbers[other] = numbers[one]
    found = (
        changed[:other] + changed[other + 1:],
        tuple([(numbers[seller], numbers[buyer], price) for seller, buyer, price in contracts]),
    )
    check_web(found)
    return found


def parted(web, house):
    """The web in which the house keeps its first part only, and for each further part there is a new house."""
    houses, contracts = web
    _, choice = houses[house]
    if choice[0] != "split" or choice[1] == ():
        raise InvalidWeb("a house without parts cannot be parted")
    parts = choice[1]
    heirs = [house] + list(range(len(houses), len(houses) + len(parts) - 1))
    owners = _owners_among(heirs, parts, buys_of(web, house) + sells_of(web, house))
    choices = [_choice_of_heir(heir, part, owners) for heir, part in zip(heirs, parts)]
    left, _ = with_choice(web, house, choices[0])
    names = _least_words(len(parts) - 1, [name for name, _ in houses])
    rows = list(contracts)
    for contract, heir in owners.items():
        seller, buyer, price = contracts[contract]
        rows[contract] = (heir, buyer, price) if seller == house else (seller, heir, price)
    return (left + tuple(zip(names, choices[1:])), tuple(rows))


def _owners_among(heirs, parts, own):
    """For each own contract of the house the heir to which it goes; the first one keeps what no part mentions."""
    owners = {contract: heirs[0] for contract in own}
    for heir, part in zip(heirs, parts):
        for contract in mentioned_in(part):
            owners[contract] = heir
    return owners


def _choice_of_heir(heir, part, owners):
    # Only groups can have contracts that go to other heirs.
    return renumbered(part, {contract: contract for contract in owners if owners[contract] == heir})


def _least_words(many, names):
    """The least words that are no names yet, so many, the shorter ones first."""
    taken = set(names)
    found = []
    number = 0
    while len(found) < many:
        if _word(number) not in taken:
            found.append(_word(number))
        number += 1
    return found


def _word(number):
    """The word that has so many others before it, the shorter ones first, then alphabetically."""
    word = ""
    left = number + 1
    while left > 0:
        # There is no letter for 0: behind the last word of one length come those of the next one.
        left -= 1
        word = LETTERS[left % len(LETTERS)] + word
        left = left // len(LETTERS)
    return word
