"""Choices as words of a line: written, and read from left to right."""

from nochaingains.errors import BadText

MOST_DIGITS = 60


def words_of_choice(choice):
    """The words for a choice, as strings."""
    kind = choice[0]
    if kind != "split":
        writer = WRITERS[kind]
        return [kind] + writer(choice)
    words = ["split"]
    for part in choice[1]:
        words.extend(["part"] + words_of_choice(part))
    return words


def _numbers(numbers):
    return [str(number) for number in numbers]


def _list_words(buys, sells):
    return ["buys"] + _numbers(buys) + ["sells"] + _numbers(sells)


def _maker_words(choice):
    _, room, buys, sells = choice
    return [str(room)] + _list_words(buys, sells)


def _sides_words(choice):
    _, buyroom, buys, sellroom, sells = choice
    return [str(buyroom), "buys"] + _numbers(buys) + [str(sellroom), "sells"] + _numbers(sells)


def _table_words(choice):
    words = []
    for row in choice[1]:
        words.extend(["row"] + _numbers(row))
    return words


def _trader_words(choice):
    _, room, cost, buys, sells = choice
    return [str(room), str(cost)] + _list_words(buys, sells)


def _caps_words(choice):
    _, buys, buygroups, sells, sellgroups = choice
    near = ["buys"] + _numbers(buys) + _group_words(buygroups)
    return near + ["sells"] + _numbers(sells) + _group_words(sellgroups)


def _group_words(groups):
    words = []
    for group, cap in groups:
        words.extend(["cap", str(cap), "of"] + _numbers(group))
    return words


WRITERS = {
    "maker": _maker_words,
    "sides": _sides_words,
    "table": _table_words,
    "trader": _trader_words,
    "caps": _caps_words,
}


def is_integer(word):
    """True if the word is an integer as texts have it."""
    digits = word[1:] if word.startswith("-") else word
    if not digits.isdigit() or len(digits) > MOST_DIGITS:
        return False
    return digits[0] != "0" or word == "0"


class Words:
    """The words of one line of a text. What cannot stand where it is raises BadText."""

    def __init__(self, line, text):
        self.line = line
        self.row = text.split(" ")
        self.place = 0

    def at_end(self):
        """True if all words are read."""
        return self.place == len(self.row)

    def is_next(self, word):
        """True if this word comes next."""
        return not self.at_end() and self.row[self.place] == word

    def word(self):
        """Reads any word."""
        if self.at_end():
            raise BadText(self.line)
        self.place += 1
        return self.row[self.place - 1]

    def skip(self, word):
        """Reads this very word."""
        if self.word() != word:
            raise BadText(self.line)

    def finish(self):
        """Makes sure that no word is left."""
        if not self.at_end():
            raise BadText(self.line)

    def integer(self):
        """Reads an integer."""
        word = self.word()
        if not is_integer(word):
            raise BadText(self.line)
        return int(word)

    def integers(self):
        """Reads as many integers as there are, perhaps none."""
        found = []
        while not self.at_end() and is_integer(self.row[self.place]):
            found.append(self.integer())
        return tuple(found)

    def some_integers(self):
        """Reads as many integers as there are, at least one."""
        first = self.integer()
        return (first,) + self.integers()

    def choice(self):
        """Reads a choice of any kind."""
        if not self.is_next("split"):
            return self.plain_choice()
        self.skip("split")
        parts = []
        while self.is_next("part"):
            self.skip("part")
            parts.append(self.plain_choice())
        return ("split", tuple(parts))

    def plain_choice(self):
        """Reads a choice that is not split."""
        kind = self.word()
        if kind not in READERS:
            raise BadText(self.line)
        reader = READERS[kind]
        return reader(self)


def _read_lists(words):
    words.skip("buys")
    buys = words.integers()
    words.skip("sells")
    return (buys, words.integers())


def _read_maker(words):
    room = words.integer()
    return ("maker", room) + _read_lists(words)


def _read_sides(words):
    buyroom = words.integer()
    words.skip("buys")
    numbers = words.some_integers()
    words.skip("sells")
    return ("sides", buyroom, numbers[:-1], numbers[-1], words.integers())


def _read_table(words):
    rows = []
    while words.is_next("row"):
        words.skip("row")
        rows.append(words.some_integers())
    return ("table", tuple(rows))


def _read_trader(words):
    room = words.integer()
    cost = words.integer()
    return ("trader", room, cost) + _read_lists(words)


def _read_caps(words):
    words.skip("buys")
    buys = words.integers()
    buygroups = _read_groups(words)
    words.skip("sells")
    sells = words.integers()
    return ("caps", buys, buygroups, sells, _read_groups(words))


def _read_groups(words):
    groups = []
    while words.is_next("cap"):
        words.skip("cap")
        cap = words.integer()
        words.skip("of")
        groups.append((words.some_integers(), cap))
    return tuple(groups)


READERS = {
    "maker": _read_maker,
    "sides": _read_sides,
    "table": _read_table,
    "trader": _read_trader,
    "caps": _read_caps,
}
