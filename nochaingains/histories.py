"""Deeds on a web with cancelled contracts, and what can be undone and redone."""

from nochaingains.checks import check_choice
from nochaingains.choices import least_break
from nochaingains.errors import InvalidWeb, NoContract, NoHouse, NothingToRedo, NothingToUndo, NotSound
from nochaingains.sets import union
from nochaingains.webs import buys_of, ring_of, sells_of, with_choice


class History:
    """A state, which is a pair of a web and its cancelled contracts, as deeds change it."""

    def __init__(self, web, cancelled):
        self.state = (web, cancelled)
        # The states to which "undo" and "redo" lead, the next one last.
        self.behind = []
        self.ahead = []

    def do(self, deed):
        """Carries out the deed; returns the number of the new contract for an offer."""
        if deed == ("undo",):
            self.undo()
        elif deed == ("redo",):
            self.redo()
        else:
            self.change(deed)
        if deed[0] == "offer":
            _, contracts = self.state[0]
            return len(contracts) - 1
        return None

    def change(self, deed):
        """Carries out a deed that can be undone."""
        # First, as it may raise an error: then nothing may be changed.
        changed = _state_after(self.state, deed)
        self.behind.append(self.state)
        self.ahead = []
        self.state = changed

    def undo(self):
        """Goes back to the state before the last deed that is not undone."""
        if self.behind == []:
            raise NothingToUndo("no deed is left that could be undone")
        self.ahead.append(self.state)
        self.state = self.behind.pop()

    def redo(self):
        """Goes on to the state behind the deed that was undone last."""
        if self.ahead == []:
            raise NothingToRedo("no deed is left that could be redone")
        self.behind.append(self.state)
        self.state = self.ahead.pop()


def _state_after(state, deed):
    web, cancelled = state
    match deed:
        case ("choose", house, choice):
            return (_with_checked_choice(web, house, choice), cancelled)
        case ("offer", seller, buyer, price):
            return (_with_contract(web, seller, buyer, price), cancelled)
        case ("cancel", contract):
            return (web, _with_cancelled(web, cancelled, contract))


def _with_checked_choice(web, house, choice):
    _check_house(web, house)
    check_choice(choice, buys_of(web, house), sells_of(web, house))
    changed = with_choice(web, house, choice)
    if least_break(changed, house) is not None:
        raise NotSound("the choice does not hold together")
    return changed


def _with_contract(web, seller, buyer, price):
    _check_house(web, seller)
    _check_house(web, buyer)
    houses, contracts = web
    changed = (houses, contracts + ((seller, buyer, price),))
    if seller == buyer or ring_of(changed) is not None:
        raise InvalidWeb("the contract leads from a house back to itself, alone or with others")
    return changed


def _with_cancelled(web, cancelled, contract):
    _, contracts = web
    if not 0 <= contract < len(contracts) or contract in cancelled:
        raise NoContract("there is no such contract, or it is cancelled already")
    return union(cancelled, (contract,))


def _check_house(web, house):
    houses, _ = web
    if not 0 <= house < len(houses):
        raise NoHouse("no house has this number")
