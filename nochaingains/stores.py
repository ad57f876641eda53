"""The store: the deeds of a market on a disk, from which the market can be recovered at any time."""

from nochaingains.histories import History


class Store:
    """A store whose market has this sound web, no cancelled contract and no deed."""

    def __init__(self, web):
        self.start_from(((web, ()), ()))

    def start_from(self, disk):
        """Makes the market what the disk tells; nothing is written."""
        (web, cancelled), deeds = disk
        self._history = History(web, cancelled)
        for deed in deeds:
            self._history.do(deed)
        self._disk = disk
        self._writes = []

    def _write(self, disk):
        self._disk = disk
        self._writes.append(disk)

    def do(self, deed):
        """Carries out the deed on the market and returns what the market returns."""
        # A deed that raises an error ends here, before anything is written.
        number = self._history.do(deed)
        base, deeds = self._disk
        self._write((base, deeds + (deed,)))
        return number

    def checkpoint(self):
        """Writes the market as it is as a new base; what was before cannot be undone or redone any more."""
        self._history = History(self.market_web(), self.cancelled())
        self._write((self._history.state, ()))

    def market_web(self):
        """The web as it is now, with all contracts."""
        return self._history.state[0]

    def cancelled(self):
        """The cancelled contracts as they are now."""
        return self._history.state[1]

    def disk(self):
        """The disk as it is now."""
        return self._disk

    def writes(self):
        """The disks after each write since the store was made or recovered, in order."""
        return tuple(self._writes)


def recovered(disk):
    """The store recovered from the disk, without writes."""
    (web, _), _ = disk
    store = Store(web)
    store.start_from(disk)
    return store
