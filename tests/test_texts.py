"""Point [9] and the interface of nochaingains.texts."""

import unittest

from nochaingains.errors import BadText, InvalidWeb
from nochaingains.texts import read_web, write_web
from nochaingains.webs import check_web
from tests.samples import FREE, hub, line_web, random_web

NINES = "9" * 60
ALL_KINDS = (
    (
        ("mill", ("maker", 2, (1, 0), (3,))),
        ("farm", ("sides", 0, (), 3, (2, 0, 1))),
        ("shop", ("table", ((3,), (2, 3), (2,)))),
        ("dock", ("trader", 1, -4, (4,), (5, 6))),
        ("inn", ("caps", (6, 5, 7), (((5, 6, 7), 2), ((5,), 0), ((5,), 1)), (8, 9), (((8, 9), 1),))),
        ("port", ("split", (("maker", 0, (), ()), ("table", ()), ("caps", (8,), (), (), ()),
                            ("sides", 1, (9,), 0, ()), ("trader", 1, 2, (), ())))),
    ),
    ((1, 0, 5), (1, 0, -5), (1, 2, 0), (0, 2, int(NINES)), (1, 3, 1), (3, 4, 2), (3, 4, 3), (1, 4, 4), (4, 5, 7),
     (4, 5, -int(NINES))),
)
ALL_TEXT = (
    "house mill maker 2 buys 1 0 sells 3\n"
    "house farm sides 0 buys 3 sells 2 0 1\n"
    "house shop table row 3 row 2 3 row 2\n"
    "house dock trader 1 -4 buys 4 sells 5 6\n"
    "house inn caps buys 6 5 7 cap 2 of 5 6 7 cap 0 of 5 cap 1 of 5 sells 8 9 cap 1 of 8 9\n"
    "house port split part maker 0 buys sells part table part caps buys 8 sells"
    " part sides 1 buys 9 0 sells part trader 1 2 buys sells\n"
    "contract farm mill 5\n"
    "contract farm mill -5\n"
    "contract farm shop 0\n"
    "contract mill shop " + NINES + "\n"
    "contract farm dock 1\n"
    "contract dock inn 2\n"
    "contract dock inn 3\n"
    "contract farm inn 4\n"
    "contract inn port 7\n"
    "contract inn port -" + NINES + "\n"
)
TWO = "house a table\nhouse b table\n"


class WritingTest(unittest.TestCase):
    def test_all_kinds(self):
        self.assertIsNone(check_web(ALL_KINDS))
        self.assertEqual(write_web(ALL_KINDS), ALL_TEXT)

    def test_empty(self):
        self.assertEqual(write_web(((), ())), "")
        self.assertEqual(write_web(((("a", ("split", ())), ("b", ("table", ()))), ())),
                         "house a split\nhouse b table\n")

    def test_lists_that_are_empty(self):
        for choice, words in (
            (("maker", 0, (), ()), "maker 0 buys sells"),
            (("sides", 0, (), 7, ()), "sides 0 buys 7 sells"),
            (("trader", 3, 0, (), ()), "trader 3 0 buys sells"),
            (("caps", (), (), (), ()), "caps buys sells"),
        ):
            web = ((("a", choice),), ())
            self.assertEqual(write_web(web), "house a " + words + "\n")
            self.assertEqual(read_web("house a " + words + "\n"), web)


class ReadingTest(unittest.TestCase):
    def wrong(self, text, line):
        with self.subTest(text[-200:]):
            with self.assertRaises(BadText) as caught:
                read_web(text)
            self.assertEqual(caught.exception.line, line)

    def not_right(self, text):
        with self.subTest(text[-200:]):
            with self.assertRaises(InvalidWeb):
                read_web(text)

    def test_all_kinds(self):
        self.assertEqual(read_web(ALL_TEXT), ALL_KINDS)

    def test_there_and_back(self):
        for seed in range(60):
            web = random_web(seed, 6, 12, sound=False)
            self.assertEqual(read_web(write_web(web)), web)

    def test_the_empty_text(self):
        self.assertEqual(read_web(""), ((), ()))

    def test_no_newline_at_the_end(self):
        self.wrong("house a table", 1)
        self.wrong(ALL_TEXT[:-1], 16)
        self.wrong(TWO + "contract a b 5", 3)
        self.wrong("house a table\nhouse b\nhouse c table", 2)
        self.wrong(" ", 1)
        self.wrong(TWO + " ", 3)

    def test_empty_lines(self):
        self.wrong("\n", 1)
        self.wrong("house a table\n\n", 2)
        self.wrong("house a table\n\nhouse b table\n", 2)
        self.wrong("\nhouse a table\n", 1)

    def test_house_lines(self):
        for row in (
            "house", "house a", "house a ", " house a table", "house  a table", "house a table ", "house a  table",
            "House a table", "houses a table", "house a Table", "house a nothing", "house a table\r",
            "house\ta table", "house a\ttable", "home a table", "a table", "table", "house a maker sells 1 buys 0",
        ):
            self.wrong("house x table\n" + row + "\n", 2)

    def test_names(self):
        for name in ("A", "a1", "a-b", "1", "a_b", "aB", "a.b", "{", "`"):
            self.wrong("house " + name + " table\n", 1)
        self.wrong(TWO + "house a table\n", 3)
        self.wrong("house a table\nhouse a maker 0 buys sells\nhouse\n", 2)
        for name in ("house", "table", "buys", "contract", "part", "z" * 300):
            self.assertEqual(read_web("house " + name + " table\n"), (((name, ("table", ())),), ()))

    def test_choices_by_bad_words(self):
        for words in (
            "maker", "maker 1", "maker buys sells", "maker 1 buys", "maker 1 sells", "maker 1 sells buys",
            "maker 1 2 buys sells", "maker 1 buys sells 0 x", "maker x buys sells", "maker 1 buys x sells",
            "maker 1 buys sells buys", "maker 1 buys 0, 1 sells", "maker 1 buys sells cap 1 of 0",
            "sides 1 buys sells", "sides 1 buys 0 1", "sides buys 1 sells", "sides 1 buys 1 sells x",
            "sides 1 1 buys sells", "sides 1 buys 0 1 2", "sides", "sides 1 buys 2 sells 3 sells",
            "table 1", "table row", "table row 1 row", "table row row 1", "table row 1 rows 2", "table rows 1",
            "table row 1 2 x", "table part", "table row 1 part table",
            "trader", "trader 1 buys sells", "trader buys sells", "trader 1 2 3 buys sells", "trader 1 2 buys",
            "trader 1 2 sells buys", "trader 1 2 buys sells row 1", "trader 1 x buys sells",
            "caps", "caps buys", "caps sells", "caps 1 buys sells", "caps buys cap of 1 sells", "caps buys cap 1 sells",
            "caps buys cap 1 of sells", "caps buys cap 1 2 of 3 sells", "caps buys sells cap 1 of",
            "caps buys cap 1 of 2 3 cap sells", "caps buys of 1 sells", "caps buys sells of", "caps buys cap x of 1 sells",
            "caps buys sells cap 1 of 0 1 buys", "caps cap 1 of 0 buys sells",
            "split part", "split maker 1 buys sells", "split part split", "split part split part table",
            "split part table part", "split parts table", "split part nothing", "split part maker 1 buys",
            "split part table row", "split 1", "split part part table",
            "part table", "row 1", "buys sells", "split part table house b table",
        ):
            self.wrong("house x table\nhouse a " + words + "\nhouse b\n", 2)

    def test_contract_lines(self):
        for row in (
            "contract", "contract a", "contract a b", "contract a b ", "contract a b 5 ", "contract a b 5 6",
            "contract  a b 5", "contract a c 5", "contract c a 5", "contract a b x", "contract 0 1 5",
            "Contract a b 5", "contract b", "contracts a b 5", "contract a b 5.0", "contract A b 5", "a b 5",
        ):
            self.wrong(TWO + row + "\ncontract a\n", 3)

    def test_the_order_of_lines(self):
        self.wrong("house a table\ncontract a b 5\nhouse b table\n", 2)
        self.wrong(TWO + "contract a b 5\nhouse c table\n", 4)
        self.wrong(TWO + "contract a b 5\nhouse a table\ncontract a b\n", 4)
        self.wrong("contract a b 5\n", 1)

    def test_integers(self):
        for word in ("0", "7", "10", "-1", "-10", "1" + "0" * 59, NINES, "-" + NINES):
            text = TWO + "contract a b " + word + "\n"
            self.assertEqual(read_web(text)[1], ((0, 1, int(word)),))
            self.assertEqual(write_web(read_web(text)), text)
        for word in ("-0", "00", "01", "-01", "+1", "1" + "0" * 60, "-1" + "0" * 60, "9" * 61, "0" * 61, "-", "--1",
                     "1-", "1e3", "0x1", "1_000", "1.0", "", "9" * 5000, "one", "1\t", "\v1"):
            self.wrong(TWO + "contract a b " + word + "\n", 3)
            self.wrong("house x table\nhouse a maker " + word + " buys sells\n", 2)
            self.wrong("house x table\nhouse a maker 1 buys " + word + " sells\n", 2)
            self.wrong("house x table\nhouse a trader 1 " + word + " buys sells\n", 2)
            self.wrong("house x table\nhouse a table row 0 " + word + "\n", 2)
            self.wrong("house x table\nhouse a caps buys cap " + word + " of 0 sells\n", 2)
            self.wrong("house x table\nhouse a sides 1 buys " + word + " sells\n", 2)

    def test_rooms_have_sixty_digits_too(self):
        web = read_web("house a maker " + NINES + " buys sells\n")
        self.assertEqual(web, ((("a", ("maker", int(NINES), (), ())),), ()))

    def test_right_lines_of_a_web_that_is_not_right(self):
        for words in ("maker -1 buys sells", "maker 1 buys 0 sells", "maker 1 buys -5 sells", "table row 1 0",
                      "table row 0 0", "sides 1 buys -1 sells", "caps buys cap -1 of 0 sells",
                      "trader -1 0 buys sells", "split part table row 9", "trader 1 1 buys " + NINES + " sells"):
            self.not_right("house a " + words + "\n")
        self.not_right(TWO + "contract a a 5\n")
        self.not_right(TWO + "contract a b 5\ncontract b a 5\n")
        self.not_right("house a sides 9 buys 0 sells\nhouse b maker 1 buys 0 0 sells\ncontract a b 1\n")

    def test_bad_lines_go_before_a_web_that_is_not_right(self):
        self.wrong("house a maker -1 buys sells\nhouse b\n", 2)
        self.wrong(TWO + "contract a a 5\ncontract a a\n", 4)
        self.wrong(TWO + "contract a b 5\ncontract b a 5", 4)
        self.wrong("house a table row 1 0\nhouse a table\n", 2)

    def test_the_first_bad_line_counts(self):
        self.wrong("house a\nhouse b\n", 1)
        self.wrong(TWO + "contract a z 1\ncontract\nhouse", 3)

    def test_sellroom_is_the_last_integer(self):
        web = hub(3, 2, ("sides", 7, (2, 0), 1, (4, 3)))
        text = write_web(web)
        self.assertTrue(text.startswith("house hub sides 7 buys 2 0 1 sells 4 3\n"))
        self.assertEqual(read_web(text), web)

    def test_unsound_webs_are_read(self):
        web = hub(3, 0, ("table", ((0, 1), (2,))))
        self.assertEqual(read_web(write_web(web)), web)

    def test_long_texts(self):
        rows = "".join([" row " + str(a) + " " + str(b) for a in range(60) for b in range(a + 1, 60)])
        contracts = "contract b a 5\n" * 60
        text = "house a table" + rows + "\nhouse b sides 0 buys 9 sells" + " 3" + "\n" + contracts
        web = read_web(text)
        self.assertEqual(len(web[0][0][1][1]), 1770)
        self.assertEqual(write_web(web), text)
        parts = "house a split" + " part table" * 8000 + "\n"
        self.assertEqual(len(read_web(parts)[0][0][1][1]), 8000)
        groups = "house a caps buys" + " cap 1 of 0" * 8000 + " sells\nhouse b table\ncontract b a 0\n"
        self.assertEqual(len(read_web(groups)[0][0][1][2]), 8000)
        nested = "house a split" + " part split" * 8000 + "\n"
        self.wrong(nested, 1)

    def test_the_examples_web(self):
        self.assertEqual(read_web(write_web(line_web())), line_web())
        self.assertEqual(write_web(((("a", FREE),), ())), "house a sides 9 buys 9 sells\n")


if __name__ == "__main__":
    unittest.main()
