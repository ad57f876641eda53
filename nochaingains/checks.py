"""Whether names and choices are right, by the words of the document."""

from nochaingains.errors import InvalidWeb
from nochaingains.shapes import mentioned_in


def is_name(word):
    """True if the word may be the name of a house."""
    return word != "" and all(["a" <= letter <= "z" for letter in word])


def check_choice(choice, buys, sells):
    """Raises InvalidWeb if a house with these buys and sells cannot have the choice."""
    if choice[0] == "split":
        _check_split(choice, buys, sells)
    else:
        _check_part(choice, buys, sells)


def _check_split(choice, buys, sells):
    seen = set()
    for part in choice[1]:
        if part[0] == "split":
            raise InvalidWeb("a part of a split choice is itself split")
        _check_part(part, buys, sells)
        for contract in mentioned_in(part):
            if contract in seen:
                raise InvalidWeb("two parts mention the same contract")
            seen.add(contract)


def _check_part(part, buys, sells):
    check = CHECKS[part[0]]
    check(part, buys, sells)


def _check_maker(choice, buys, sells):
    _, room, wanted_buys, wanted_sells = choice
    _check_not_negative(room)
    _check_wishes(wanted_buys, buys)
    _check_wishes(wanted_sells, sells)


def _check_sides(choice, buys, sells):
    _, buyroom, wanted_buys, sellroom, wanted_sells = choice
    _check_not_negative(buyroom)
    _check_wishes(wanted_buys, buys)
    _check_not_negative(sellroom)
    _check_wishes(wanted_sells, sells)


def _check_table(choice, buys, sells):
    _, rows = choice
    for row in rows:
        _check_filled_set(row, buys + sells)
    if len(set(rows)) < len(rows):
        raise InvalidWeb("a table has a row twice")


def _check_trader(choice, buys, sells):
    _, room, _, wanted_buys, wanted_sells = choice
    _check_not_negative(room)
    _check_set(wanted_buys, buys)
    _check_set(wanted_sells, sells)


def _check_caps(choice, buys, sells):
    _, wanted_buys, buygroups, wanted_sells, sellgroups = choice
    _check_wishes(wanted_buys, buys)
    _check_groups(buygroups, buys)
    _check_wishes(wanted_sells, sells)
    _check_groups(sellgroups, sells)


def _check_not_negative(room):
    # Messages tell no numbers: Python refuses to write out very long ones.
    if room < 0:
        raise InvalidWeb("a room or a cap is negative")


def _check_wishes(wanted, own):
    if len(set(wanted)) < len(wanted):
        raise InvalidWeb("a contract is wanted twice")
    _check_own(wanted, own)


def _check_set(contracts, own):
    if list(contracts) != sorted(set(contracts)):
        raise InvalidWeb("a set is out of order or has duplicates")
    _check_own(contracts, own)


def _check_filled_set(contracts, own):
    if len(contracts) == 0:
        raise InvalidWeb("a row or a group is empty")
    _check_set(contracts, own)


def _check_own(contracts, own):
    known = set(own)
    for contract in contracts:
        if contract not in known:
            raise InvalidWeb("a choice has a contract that does not belong there")


def _check_groups(groups, own):
    for group, cap in groups:
        _check_filled_set(group, own)
        _check_not_negative(cap)
    if not _are_nested([group for group, _ in groups]):
        raise InvalidWeb("two groups overlap, and neither lies within the other")


def _are_nested(groups):
    # With the larger groups first, a group fits among those before it exactly
    # if all its contracts have the same one as their innermost group so far.
    innermost = {}
    for _, group in sorted([(-len(group), group) for group in groups]):
        if len({innermost.get(contract) for contract in group}) > 1:
            return False
        for contract in group:
            innermost[contract] = group
    return True


CHECKS = {
    "maker": _check_maker,
    "sides": _check_sides,
    "table": _check_table,
    "trader": _check_trader,
    "caps": _check_caps,
}
