"""Points [9], [33], [49] and the interface of nochaingains.deedtexts."""

import copy
import random
import re
import unittest

from nochaingains.deedtexts import read_journal, write_journal
from nochaingains.errors import BadText, ContractError
from nochaingains.markets import Market, replayed
from tests.samples import any_choice, line_web, random_web

NINES = int("9" * 60)
LONG = "1" + "0" * 60

# The form of a line, word by word, as points [9] and [49] tell it.
INT = "(?:0|-?[1-9][0-9]{0,59})"
ANY = "(?: " + INT + ")*"
SOME = "(?: " + INT + ")+"
LISTS = " buys" + ANY + " sells" + ANY
GROUPS = "(?: cap " + INT + " of" + SOME + ")*"
PLAIN = "(?:" + "|".join((
    "maker " + INT + LISTS,
    "sides " + INT + " buys" + ANY + " " + INT + " sells" + ANY,
    "table(?: row" + SOME + ")*",
    "trader " + INT + " " + INT + LISTS,
    "caps buys" + ANY + GROUPS + " sells" + ANY + GROUPS,
)) + ")"
CHOICE = "(?:" + PLAIN + "|split(?: part " + PLAIN + ")*)"
LINE = re.compile("|".join((
    "choose " + INT + " " + CHOICE, "offer " + INT + " " + INT + " " + INT, "cancel " + INT, "undo", "redo",
)))

CHOICES = (
    (("maker", 2, (1, 0), (3,)), "maker 2 buys 1 0 sells 3"),
    (("maker", 0, (), ()), "maker 0 buys sells"),
    (("maker", -NINES, (-1, 5, 5), (NINES, -7)), f"maker -{NINES} buys -1 5 5 sells {NINES} -7"),
    (("sides", 1, (4, 2), 3, (0, 1)), "sides 1 buys 4 2 3 sells 0 1"),
    (("sides", 0, (), 7, ()), "sides 0 buys 7 sells"),
    (("sides", -3, (0,), -NINES, (8, 8)), f"sides -3 buys 0 -{NINES} sells 8 8"),
    (("table", ()), "table"),
    (("table", ((1,), (0, 2), (1,))), "table row 1 row 0 2 row 1"),
    (("table", ((9, -9, 9), (NINES,))), f"table row 9 -9 9 row {NINES}"),
    (("trader", 1, -4, (4,), (5, 6)), "trader 1 -4 buys 4 sells 5 6"),
    (("trader", -1, NINES, (), (-2, -2)), f"trader -1 {NINES} buys sells -2 -2"),
    (("caps", (6, 5), (((5, 6), 2), ((5,), 0)), (8,), (((8, 9), 1),)),
     "caps buys 6 5 cap 2 of 5 6 cap 0 of 5 sells 8 cap 1 of 8 9"),
    (("caps", (), (), (), ()), "caps buys sells"),
    (("caps", (), (((3, -3), -NINES),), (0, 0), ()), f"caps buys cap -{NINES} of 3 -3 sells 0 0"),
    (("split", ()), "split"),
    (("split", (("maker", 0, (), ()), ("table", ()), ("caps", (8,), (), (), (((-8,), 1),)), ("sides", 1, (9,), 0, ()),
                ("table", ((1,), (2, 2))), ("trader", 1, 2, (), ()))),
     "split part maker 0 buys sells part table part caps buys 8 sells cap 1 of -8 part sides 1 buys 9 0 sells"
     " part table row 1 row 2 2 part trader 1 2 buys sells"),
)
DEEDS = tuple((("choose", house, choice), f"choose {house} {words}")
              for house, (choice, words) in zip((0, 7, -1, NINES, -NINES, 29) * 3, CHOICES)) + (
    (("offer", 0, 1, 5), "offer 0 1 5"),
    (("offer", -3, 99, -NINES), f"offer -3 99 -{NINES}"),
    (("offer", NINES, NINES, 0), f"offer {NINES} {NINES} 0"),
    (("cancel", 0), "cancel 0"),
    (("cancel", -NINES), f"cancel -{NINES}"),
    (("undo",), "undo"),
    (("redo",), "redo"),
)
ROWS = tuple(row for _, row in DEEDS)


def lines(rows):
    return "".join(row + "\n" for row in rows)


def spoiled(row):
    """The line with a word less, a word more, another word, a space more, or a number that is no integer."""
    words = row.split(" ")
    found = []
    for place in range(len(words) + 1):
        for more in ("", "0", "-1", "x", "buys", "sells", "row", "of", "cap", "part", "split", "table", "undo", "-0",
                     "00", "01", "-01", "+1", LONG, "-" + LONG):
            found.append(words[:place] + [more] + words[place:])
            if place < len(words):
                found.append(words[:place] + [more] + words[place + 1:])
        if place < len(words):
            found.append(words[:place] + words[place + 1:])
            for other in (words[place] + "s", words[place].upper() + "A", words[place] + "\t", "0" + words[place],
                          "-" + words[place], words[place] + "\r", words[place] + ","):
                found.append(words[:place] + [other] + words[place + 1:])
    return [" ".join(words) for words in found]


class WritingTest(unittest.TestCase):
    def test_each_deed(self):
        for deed, row in DEEDS:
            with self.subTest(row):
                self.assertEqual(write_journal((deed,)), row + "\n")

    def test_all_deeds_together(self):
        self.assertEqual(write_journal(tuple(deed for deed, _ in DEEDS)), lines(ROWS))

    def test_the_empty_journal(self):
        self.assertEqual(write_journal(()), "")


class ReadingTest(unittest.TestCase):
    def wrong(self, text, line):
        with self.subTest(text[-200:]):
            with self.assertRaises(BadText) as caught:
                read_journal(text)
            self.assertIs(type(caught.exception), BadText)
            self.assertIsInstance(caught.exception, ContractError)
            self.assertEqual(caught.exception.line, line)

    def wrong_anywhere(self, row):
        """The line is not right alone, and before and behind right lines."""
        self.wrong(row + "\n", 1)
        self.wrong(lines(ROWS) + row + "\n", len(ROWS) + 1)
        self.wrong("undo\n" + row + "\nredo\n", 2)
        self.wrong(row + "\n" + lines(ROWS), 1)
        self.wrong("undo\n" + row + "\noffer\nredo", 2)

    def test_each_deed(self):
        for deed, row in DEEDS:
            with self.subTest(row):
                self.assertTrue(LINE.fullmatch(row))
                self.assertEqual(read_journal(row + "\n"), (deed,))

    def test_all_deeds_together(self):
        self.assertEqual(read_journal(lines(ROWS)), tuple(deed for deed, _ in DEEDS))

    def test_the_empty_text(self):
        self.assertEqual(read_journal(""), ())

    def test_there_and_back(self):
        for seed in range(60):
            rng = random.Random(seed)
            deeds = []
            for _ in range(rng.randint(0, 30)):
                kind = rng.choice(("choose", "offer", "cancel", "undo", "redo"))
                numbers = [rng.choice((0, 3, -5, 10 ** rng.randint(0, 59), -NINES)) for _ in range(3)]
                if kind == "choose":
                    deeds.append((kind, numbers[0], any_choice(rng, [0, 3, 12, -4, NINES], [5, -10 ** 40])))
                else:
                    deeds.append((kind,) + tuple(numbers[:{"offer": 3, "cancel": 1}.get(kind, 0)]))
            deeds = tuple(deeds)
            before = copy.deepcopy(deeds)
            text = write_journal(deeds)
            self.assertEqual(deeds, before)
            self.assertEqual(text.count("\n"), len(deeds))
            self.assertEqual(read_journal(text), deeds)
            self.assertEqual(write_journal(read_journal(text)), text)

    def test_each_line_spoiled_at_each_place(self):
        seen = {True: 0, False: 0}
        for row in ROWS:
            for other in spoiled(row):
                right = LINE.fullmatch(other) is not None
                seen[right] += 1
                text = "redo\n" + other + "\nundo\n"
                if right:
                    self.assertEqual(write_journal(read_journal(text)), text)
                else:
                    with self.assertRaises(BadText, msg=other) as caught:
                        read_journal(text)
                    self.assertEqual(caught.exception.line, 2)
        self.assertGreater(min(seen.values()), 500)

    def test_words_too_few_too_many_and_others(self):
        for row in (
            "choose", "choose 0", "choose 0 maker", "choose 0 maker 1", "choose 0 maker 1 buys", "choose maker 1 buys sells",
            "choose 0 0 maker 1 buys sells", "choose 0 maker buys sells", "choose 0 maker 1 2 buys sells",
            "choose 0 maker 1 sells buys", "choose 0 maker 1 buys sells buys", "choose 0 chooser 1 buys sells",
            "choose 0 sides 1 buys sells", "choose 0 sides buys 1 sells", "choose 0 sides 1 buys 1", "choose 0 trader 1 buys sells",
            "choose 0 trader 1 2 3 buys sells", "choose 0 caps 1 buys sells", "choose 0 caps buys", "choose 0 table 1",
            "choose 0 table rows 1", "choose 0 split 1", "choose 0 split maker 1 buys sells", "choose mill table",
            "house mill table", "contract a b 5", "choose a table", "offer", "offer 0", "offer 0 1", "offer 0 1 2 3",
            "offer a b 5", "offer 0 1 x", "offer 0,1 2", "cancel", "cancel 0 1", "cancel x", "cancel cancel", "undo 1",
            "undo undo", "redo 0", "redo undo", "do", "Undo", "REDO", "undo.", "un do", "5", "x", "checkpoint",
        ):
            self.wrong_anywhere(row)

    def test_spaces(self):
        for row in (" undo", "undo ", " redo", "redo ", "cancel  0", " cancel 0", "cancel 0 ", "offer 0  1 5", "offer 0 1  5",
                    "offer 0 1 5 ", "offer\t0 1 5", "undo\t", "undo\r", "choose  0 table", "choose 0  table",
                    "choose 0 table ", "choose 0 table  row 1", "choose 0 maker 1 buys  sells", " ", "  "):
            self.wrong_anywhere(row)
        for row in ROWS:
            for place, letter in enumerate(row):
                if letter == " ":
                    self.wrong(row[:place] + " " + row[place:] + "\n", 1)
            self.wrong(" " + row + "\n", 1)
            self.wrong(row + " \n", 1)

    def test_numbers(self):
        for number in ("0", "7", "10", "-1", "-10", "1" + "0" * 59, "-" + "9" * 60):
            self.assertEqual(read_journal("cancel " + number + "\n"), (("cancel", int(number)),))
        for number in ("-0", "00", "01", "-01", "007", LONG, "-" + LONG, "9" * 61, "0" * 61, "9" * 5000, "+1", "-", "--1",
                       "1-", "1e3", "0x1", "1_000", "1.0", "", "one", "1\t", "\v1"):
            for row in ("cancel {}", "offer {} 1 2", "offer 0 {} 2", "offer 0 1 {}", "choose {} table",
                        "choose 0 maker {} buys sells", "choose 0 maker 1 buys {} sells", "choose 0 maker 1 buys sells {}",
                        "choose 0 sides {} buys 1 sells", "choose 0 sides 1 buys {} sells", "choose 0 trader 1 {} buys sells",
                        "choose 0 table row {}", "choose 0 table row 1 {}", "choose 0 caps buys cap {} of 1 sells",
                        "choose 0 caps buys cap 1 of {} sells", "choose 0 split part maker {} buys sells"):
                self.wrong_anywhere(row.format(number))

    def test_blank_lines(self):
        self.wrong("\n", 1)
        self.wrong("\n\n", 1)
        self.wrong_anywhere("")
        self.wrong("undo\n\n", 2)
        self.wrong("undo\n\nredo\n", 2)

    def test_empty_rows_and_groups_and_split_parts(self):
        for words in ("table row", "table row row 1", "table row 1 row", "caps buys cap 1 of sells", "caps buys sells cap 1 of",
                      "caps buys cap 1 of cap 2 of 1 sells", "split part split", "split part split part table",
                      "split part table part split part table", "split part", "split part part table",
                      "split part table part", "split part table row", "split part caps buys cap 0 of sells"):
            self.wrong_anywhere("choose 0 " + words)

    def test_no_newline_at_the_end(self):
        for row in ROWS + ("offer", "x", " "):
            self.wrong(row, 1)
            self.wrong("undo\nredo\n" + row, 3)
            self.wrong("undo\nredo 1\n" + row, 2)
            self.wrong("redo 1\nundo\n" + row, 1)
        self.wrong(lines(ROWS)[:-1], len(ROWS))
        self.wrong("cancel 1\ncancel\ncancel 2\ncancel", 2)

    def test_long_texts(self):
        text = "undo\n" * 20000
        self.assertEqual(read_journal(text), (("undo",),) * 20000)
        table = ("table", tuple((a, b) for a in range(60) for b in range(a + 1, 60)))
        split = ("split", (("table", ()),) * 3000)
        caps = ("caps", tuple(range(300)), (((0, 1, 2), 1),) * 2000, (), (((5,), 0),) * 500)
        deeds = (("choose", 0, table), ("choose", 1, split), ("choose", 2, caps)) + (("cancel", 1),) * 197
        text = write_journal(deeds)
        self.assertLess(len(text), 100000)
        self.assertEqual(read_journal(text), deeds)
        self.wrong("choose 0 split" + " part split" * 8000 + "\n", 1)
        self.wrong("choose 0" + " 0" * 40000 + "\n", 1)


class MarketsTest(unittest.TestCase):
    def test_the_journal_of_a_market(self):
        web = line_web()
        market = Market(web)
        for deed in (("offer", 0, 2, 7), ("choose", 2, ("sides", 1, (2, 1), 0, ())), ("cancel", 1), ("undo",), ("redo",),
                     ("choose", 1, ("split", (("table", ((0, 1),)),)))):
            market.do(deed)
        text = write_journal(market.journal())
        self.assertEqual(text, "offer 0 2 7\nchoose 2 sides 1 buys 2 1 0 sells\ncancel 1\nundo\nredo\n"
                               "choose 1 split part table row 0 1\n")
        again = replayed(web, read_journal(text))
        self.assertEqual((again.web(), again.cancelled()), (market.web(), market.cancelled()))

    def test_choices_of_webs(self):
        for seed in range(20):
            web = random_web(seed, 6, 12, sound=False)
            deeds = tuple(("choose", house, choice) for house, (_, choice) in enumerate(web[0]))
            self.assertEqual(read_journal(write_journal(deeds)), deeds)


if __name__ == "__main__":
    unittest.main()
