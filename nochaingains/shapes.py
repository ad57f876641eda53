"""The shapes of choices: their parts, and what they mention."""


def parts_in(choice):
    """The parts of a split choice; any other choice is its own only part."""
    if choice[0] == "split":
        return choice[1]
    return (choice,)


def lists_in(part):
    """The tuples of contracts by which a choice that is not split mentions contracts."""
    match part:
        case ("maker", _, buys, sells):
            return (buys, sells)
        case ("sides", _, buys, _, sells):
            return (buys, sells)
        case ("trader", _, _, buys, sells):
            return (buys, sells)
        case ("caps", buys, _, sells, _):
            return (buys, sells)
        case (_, rows):
            return rows


def mentioned_in(part):
    """The contracts that a choice that is not split mentions, a set."""
    return tuple(sorted({contract for row in lists_in(part) for contract in row}))
