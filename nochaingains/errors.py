"""The errors that the program raises."""


class ContractError(ValueError):
    """The base class of all errors that the program raises."""


class InvalidWeb(ContractError):
    """A web, or a choice in it, is not right."""


class NotSound(ContractError):
    """A choice does not hold together."""


class BadText(ContractError):
    """A line of a text is not of the form."""

    def __init__(self, line):
        super().__init__(f"line {line} is not of the form")
        self.line = line


class NoHouse(ContractError):
    """There is no such house."""


class NoContract(ContractError):
    """There is no such contract, or it is cancelled."""


class NoLetter(ContractError):
    """There is no such letter on the line."""


class NothingToUndo(ContractError):
    """No deed is left that could be undone."""


class NothingToRedo(ContractError):
    """No deed is left that could be redone."""
