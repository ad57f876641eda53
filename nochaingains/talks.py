"""Talks: houses come to the best network for buyers by letters on a line."""

from nochaingains.errors import NoLetter
from nochaingains.letters import receiver_of, right_letters
from nochaingains.webs import buys_of, sells_of


class Talk:
    """A talk at its beginning, with an empty line."""

    def __init__(self, web):
        houses, _ = web
        self._web = web
        self._line = []
        # The letters that were delivered are all that their receivers know.
        self._told = {}
        # For each house, by contract, the letters by which it stands.
        self._stood = [{} for _ in houses]
        for house in range(len(houses)):
            self._choose_letters(house)

    def _choose_letters(self, house):
        for letter in right_letters(self._web, house, self._told):
            self._stood[house][letter[1]] = letter

    def known_open(self, house):
        """The buys that the house knows to be open."""
        return tuple([buy for buy in buys_of(self._web, house) if ("withdraw", buy) not in self._told])

    def known_asked(self, house):
        """The sells that the house knows to be asked for."""
        return tuple([sell for sell in sells_of(self._web, house) if ("ask", sell) in self._told])

    def stands_by(self, house):
        """The letters by which the house stands, in ascending order of the contracts."""
        stood = self._stood[house]
        return tuple([stood[contract] for contract in sorted(stood)])

    def post(self, house):
        """Puts all letters by which the house stands behind the end of the line."""
        self._line.extend(self.stands_by(house))

    def waiting(self):
        """The letters on the line, in order."""
        return tuple(self._line)

    def deliver(self, index):
        """Takes the letter from the line; its receiver knows from then on what it tells."""
        letter = self._letter_at(index)
        self._line.pop(index)
        self._told[letter] = True
        # Only what the receiver knows has changed, so only it may choose anew.
        self._choose_letters(receiver_of(self._web, letter))

    def lose(self, index):
        """Takes the letter from the line, without any effect."""
        self._letter_at(index)
        self._line.pop(index)

    def double(self, index):
        """Puts an equal letter behind the end of the line."""
        self._line.append(self._letter_at(index))

    def _letter_at(self, index):
        if not 0 <= index < len(self._line):
            raise NoLetter("no letter on the line has this index")
        return self._line[index]

    def is_quiet(self):
        """True if every house knows all that the letters by which others stand would tell it."""
        return all([letter in self._told for stood in self._stood for letter in stood.values()])

    def network(self):
        """The contracts that are asked for and not withdrawn."""
        _, contracts = self._web
        ends = [(number, seller, buyer) for number, (seller, buyer, _) in enumerate(contracts)]
        return tuple([number for number, seller, buyer in ends
                      if number in self._stood[buyer] and number not in self._stood[seller]])
