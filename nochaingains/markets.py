"""The market: a web under deeds, with its best networks and verdicts."""

from nochaingains.histories import History
from nochaingains.live import live_web_of
from nochaingains.offers import verdict
from nochaingains.stands import best_for_buyers, best_for_sellers, network_of


class Market:
    """A market with this sound web, no cancelled contract and no deed."""

    def __init__(self, web):
        self._history = History(web, ())
        self._deeds = []

    def do(self, deed):
        """Carries out the deed; returns the number of the new contract for an offer, otherwise None."""
        number = self._history.do(deed)
        self._deeds.append(deed)
        return number

    def web(self):
        """The web as it is now, with all contracts."""
        return self._history.state[0]

    def cancelled(self):
        """The cancelled contracts."""
        return self._history.state[1]

    def live_web(self):
        """The web without cancelled contracts in its choices."""
        return live_web_of(self.web(), self.cancelled())

    def best_for_buyers(self):
        """The network of the greatest settled stand of the live web."""
        return network_of(best_for_buyers(self.live_web()))

    def best_for_sellers(self):
        """The network of the least settled stand of the live web."""
        return network_of(best_for_sellers(self.live_web()))

    def verdict(self, network):
        """The verdict on a network in the live web."""
        return verdict(self.live_web(), network)

    def journal(self):
        """All deeds that were carried out, in order."""
        return tuple(self._deeds)


def replayed(web, journal):
    """A new market with this web and the deeds of the journal; raises what the first wrong deed raises."""
    market = Market(web)
    for deed in journal:
        market.do(deed)
    return market
