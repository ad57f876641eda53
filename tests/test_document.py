"""The examples of the document, as they are printed there."""

import doctest
import pathlib
import unittest

README = pathlib.Path(__file__).resolve().parent.parent / "README.md"

EXAMPLES = r'''
>>> from nochaingains.texts import write_web
>>> write_web(((("mill", ("maker", 2, (0,), (1,))), ("farm", ("sides", 0, (), 1, (0,))), ("shop", ("table", ((1,),)))), ((1, 0, 5), (0, 2, -9))))
'house mill maker 2 buys 0 sells 1\nhouse farm sides 0 buys 1 sells 0\nhouse shop table row 1\ncontract farm mill 5\ncontract mill shop -9\n'

>>> from nochaingains.choices import choose
>>> mill = ("mill", ("maker", 2, (0, 1), (3, 2)))
>>> free = ("sides", 9, (), 9, ())
>>> web = ((mill, ("farm", free), ("shop", free)), ((1, 0, 5), (1, 0, 5), (0, 2, 9), (0, 2, 8)))
>>> choose(web, 0, (0, 1, 2))
(0, 2)

>>> from nochaingains.choices import least_break
>>> shop = ("shop", ("table", ((0, 1), (2,))))
>>> web = ((shop, ("farm", ("sides", 0, (), 9, (0, 1, 2)))), ((1, 0, 5), (1, 0, 5), (1, 0, 5)))
>>> least_break(web, 0)
((0,), 1, 0)

>>> from nochaingains.offers import verdict
>>> farm = ("farm", ("sides", 0, (), 1, (0,)))
>>> mill = ("mill", ("maker", 1, (0,), (1,)))
>>> shop = ("shop", ("sides", 1, (1,), 0, ()))
>>> web = ((farm, mill, shop), ((0, 1, 5), (1, 2, 9)))
>>> verdict(web, ())
('chain', (0, 1))

>>> from nochaingains.offers import verdict
>>> farm = ("farm", ("sides", 0, (), 1, (0,)))
>>> mill = ("mill", ("maker", 1, (0,), (1,)))
>>> shop = ("shop", ("sides", 1, (1,), 0, ()))
>>> web = ((farm, mill, shop), ((0, 1, 5), (1, 2, 9)))
>>> verdict(web, (0,))
('drops', 1, ())
'''


class ExamplesTest(unittest.TestCase):
    def test_examples(self):
        self.run_all(EXAMPLES, 23)

    def test_readme(self):
        self.run_all(README.read_text(), 37)

    def run_all(self, text, many):
        test = doctest.DocTestParser().get_doctest(text, {}, "document", None, 0)
        self.assertEqual(len(test.examples), many)
        report = []
        results = doctest.DocTestRunner(verbose=False).run(test, out=report.append)
        self.assertEqual(results.failed, 0, "".join(report))


if __name__ == "__main__":
    unittest.main()
