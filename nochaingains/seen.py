"""What was seen of a choice: what explains a book of choices, or clashes that show that nothing does."""

from nochaingains.rings import ring_upwards
from nochaingains.sets import common, minus


def explanation(book):
    """The least room, and the least list with it, that explain the book; None if nothing does."""
    wished = _wished_in(book)
    clashes = _clashes(book, wished)
    if None not in clashes:
        return None
    return (clashes.index(None), _least_list(_better_ones(book, wished)))


def refusal(book):
    """For each room a clash, by which no list explains the book with it; None if the book can be explained."""
    clashes = _clashes(book, _wished_in(book))
    return None if None in clashes else tuple(clashes)


def is_right_refusal(book, clashes):
    """True if there is one clash for each room, and each clash is so."""
    if len(clashes) != len(_wished_in(book)) + 1:
        return False
    return all([_is_clash(book, room, clash) for room, clash in enumerate(clashes)])


def maker_explanation(book, buys):
    """The maker with the least room and the least lists that explains the book; None if none does."""
    near, far = _sides_of(book, buys)
    clashes = _maker_clashes(book, near, far)
    if None not in clashes:
        return None
    lists = (_least_list(_better_ones(book, near)), _least_list(_better_ones(book, far)))
    return ("maker", clashes.index(None)) + lists


def maker_refusal(book, buys):
    """For each room a clash, by which no maker explains the book with it; None if some maker does."""
    near, far = _sides_of(book, buys)
    clashes = _maker_clashes(book, near, far)
    return None if None in clashes else tuple(clashes)


def is_right_maker_refusal(book, buys, clashes):
    """True if there is one clash for each room, and each clash is so for a maker."""
    near, far = _sides_of(book, buys)
    if len(clashes) != len(near) + 1:
        return False
    return all([_is_maker_clash(book, near, far, room, clash) for room, clash in enumerate(clashes)])


def _wished_in(book):
    """The contracts that are chosen in some pair."""
    return tuple(sorted({contract for _, chosen in book for contract in chosen}))


def _sides_of(book, buys):
    """The wished buys and the wished sells."""
    wished = _wished_in(book)
    return (common(wished, buys), minus(wished, buys))


def _clashes(book, wished):
    """For each room, in order, a clash, or None if some list explains the book with it."""
    many = len(wished) + 1
    ring = _ring_among(_better_ones(book, wished))
    # A ring is a clash for every room: no list has its contracts in an order that fits.
    if ring is not None:
        return [("ring", ring)] * many
    return [_clash_of_numbers(book, wished, room) for room in range(many)]


def _clash_of_numbers(book, wished, room):
    for index, (offered, chosen) in enumerate(book):
        if len(chosen) > room:
            return ("many", index)
        left = minus(common(offered, wished), chosen)
        if len(chosen) < room and left != ():
            return ("left", index, left[0], _pair_that_has(book, left[0]))
    return None


def _pair_that_has(book, contract):
    """The first pair in which the contract is chosen."""
    return [index for index, (_, chosen) in enumerate(book) if contract in chosen][0]


def _maker_clashes(book, near, far):
    """For each room, in order, a clash, or None if a maker with this room explains the book."""
    many = len(near) + 1
    for side in (near, far):
        ring = _ring_among(_better_ones(book, side))
        if ring is not None:
            return [("ring", ring)] * many
    return [_maker_clash_of_numbers(book, near, far, room) for room in range(many)]


def _maker_clash_of_numbers(book, near, far, room):
    for index, pair in enumerate(book):
        for word in ("uneven", "many", "few"):
            if _is_so(word, pair, near, far, room):
                return (word, index)
    return None


def _is_so(word, pair, near, far, room):
    """True if the word is true of the numbers of a pair, for a maker with this room and these wishes."""
    offered, chosen = pair
    buys = len(common(chosen, near))
    if word == "uneven":
        return buys != len(common(chosen, far))
    if word == "many":
        return buys > room
    return buys < min(room, len(common(offered, near)), len(common(offered, far)))


def _better_ones(book, wished):
    """For each wished contract those that stand ahead of it in every list that explains the book.

    Each of them comes with the index of a pair in which it was chosen, and the other one was offered and was not.
    """
    better = {contract: {} for contract in wished}
    for index, (offered, chosen) in enumerate(book):
        ahead = common(chosen, wished)
        for worse in minus(common(offered, wished), chosen):
            for contract in ahead:
                better[worse][contract] = index
    return better


def _least_list(better):
    """The least list with each contract behind its better ones, as far as rings let it go."""
    missing = {contract: len(better[contract]) for contract in better}
    ready = [contract for contract in better if missing[contract] == 0]
    listed = []
    while ready != []:
        contract = min(ready)
        ready.remove(contract)
        listed.append(contract)
        for worse in better:
            if contract in better[worse]:
                missing[worse] -= 1
                if missing[worse] == 0:
                    ready.append(worse)
    return tuple(listed)


def _ring_among(better):
    """A row of pairs (index, contract) that goes round, each contract better than the next; or None."""
    left = minus(tuple(better), _least_list(better))
    if left == ():
        return None
    steps = {}
    for worse in left:
        # What is left has something better that is left, too, or it would be listed.
        contract = common(tuple(better[worse]), left)[0]
        steps[worse] = ((better[worse][contract], contract), contract)
    return ring_upwards(steps, left[0])


def _is_clash(book, room, clash):
    match clash:
        case ("many", index):
            return _is_index(book, index) and len(book[index][1]) > room
        case ("left", index, contract, other):
            if not _is_index(book, index) or not _is_index(book, other):
                return False
            fewer = len(book[index][1]) < room
            return fewer and _is_passed_over(book[index], contract) and contract in book[other][1]
        case ("ring", row):
            return _is_ring(book, row)


def _is_maker_clash(book, near, far, room, clash):
    match clash:
        case ("ring", row):
            return _is_ring(book, row) and _is_of_one_side(row, near)
        case (word, index):
            return _is_index(book, index) and _is_so(word, book[index], near, far, room)


def _is_index(book, index):
    return 0 <= index < len(book)


def _is_passed_over(pair, contract):
    """True if the contract is offered in the pair and not chosen."""
    offered, chosen = pair
    return contract in offered and contract not in chosen


def _is_ring(book, row):
    """True if the row is not empty, and each of its contracts was chosen where the next one was passed over."""
    if len(row) == 0 or not all([_is_index(book, index) for index, _ in row]):
        return False
    nexts = row[1:] + row[:1]
    chosen = all([contract in book[index][1] for index, contract in row])
    return chosen and all([_is_passed_over(book[index], other) for (index, _), (_, other) in zip(row, nexts)])


def _is_of_one_side(row, near):
    """True if all contracts of a ring, which are wished, are buys, or all are sells."""
    return len({contract in near for _, contract in row}) == 1
