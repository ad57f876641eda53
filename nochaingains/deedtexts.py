"""The text of a journal: one line for each deed."""

from nochaingains.errors import BadText
from nochaingains.words import Words, words_of_choice

# How many integers stand behind the word, for each deed without a choice.
INTEGERS = {"offer": 3, "cancel": 1, "undo": 0, "redo": 0}


def write_journal(deeds):
    """The text of a tuple of deeds."""
    return "".join([" ".join(_words_of_deed(deed)) + "\n" for deed in deeds])


def read_journal(text):
    """The deeds of the text; raises BadText for the first bad line."""
    lines = text.split("\n")
    deeds = [_read_deed(Words(line, row)) for line, row in enumerate(lines[:-1], start=1)]
    if lines[-1] != "":
        raise BadText(len(lines))
    return tuple(deeds)


def _words_of_deed(deed):
    if deed[0] == "choose":
        _, house, choice = deed
        return ["choose", str(house)] + words_of_choice(choice)
    return [str(part) for part in deed]


def _read_deed(words):
    word = words.word()
    if word == "choose":
        house = words.integer()
        deed = (word, house, words.choice())
    elif word in INTEGERS:
        deed = (word,) + tuple([words.integer() for _ in range(INTEGERS[word])])
    else:
        raise BadText(words.line)
    words.finish()
    return deed
