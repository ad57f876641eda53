"""The text of a web: one line for each house, then one for each contract."""

from nochaingains.checks import is_name
from nochaingains.errors import BadText
from nochaingains.webs import check_web
from nochaingains.words import Words, words_of_choice


def write_web(web):
    """The text of a right web."""
    houses, contracts = web
    rows = [["house", name] + words_of_choice(choice) for name, choice in houses]
    for seller, buyer, price in contracts:
        rows.append(["contract", houses[seller][0], houses[buyer][0], str(price)])
    return "".join([" ".join(row) + "\n" for row in rows])


def read_web(text):
    """The right web of the text; raises BadText for the first bad line, then InvalidWeb."""
    lines = text.split("\n")
    houses = []
    contracts = []
    numbers = {}
    for line, row in enumerate(lines[:-1], start=1):
        words = Words(line, row)
        if words.is_next("house") and contracts == []:
            name, choice = _read_house(words)
            if name in numbers:
                raise BadText(line)
            numbers[name] = len(houses)
            houses.append((name, choice))
        else:
            contracts.append(_read_contract(words, numbers))
    if lines[-1] != "":
        raise BadText(len(lines))
    web = (tuple(houses), tuple(contracts))
    check_web(web)
    return web


def _read_house(words):
    words.skip("house")
    name = words.word()
    if not is_name(name):
        raise BadText(words.line)
    choice = words.choice()
    words.finish()
    return (name, choice)


def _read_contract(words, numbers):
    words.skip("contract")
    seller = _read_known_name(words, numbers)
    buyer = _read_known_name(words, numbers)
    price = words.integer()
    words.finish()
    return (seller, buyer, price)


def _read_known_name(words, numbers):
    name = words.word()
    if name not in numbers:
        raise BadText(words.line)
    return numbers[name]
