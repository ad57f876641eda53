"""Points [1] to [3] for all calls: the interface, the kinds of results, and that nothing is changed."""

import copy
import importlib
import inspect
import pathlib
import unittest

from nochaingains import errors
from tests.samples import FREE, busy_web, hub, layered_web, line_web, random_web

# Each function of the interface, with the names of its arguments.
INTERFACE = {
    "webs": {
        "check_web": "web", "ring_of": "web", "buys_of": "web house", "sells_of": "web house",
    },
    "texts": {"write_web": "web", "read_web": "text"},
    "choices": {
        "choose": "web house offered", "mentioned": "choice", "least_break": "web house",
        "least_unsteady": "web house", "is_sound": "web", "is_steady": "web",
    },
    "networks": {
        "is_kept": "web network", "droppings": "web network", "trades": "web house network",
        "lot_gains": "web network lot", "barring": "web network lot", "likes": "web house one other",
    },
    "chains": {
        "is_chain": "web contracts", "gaining_chain": "web network", "gaining_chains": "web network",
        "chain_within": "web network lot",
    },
    "offers": {
        "told_offers": "web network", "judge": "web network offers", "verdict": "web network",
        "is_at_rest": "web network",
    },
    "stands": {
        "next_stand": "web stand", "is_settled": "web stand", "network_of": "stand", "best_for_buyers": "web",
        "best_for_sellers": "web", "join": "web one other", "meet": "web one other",
    },
    "allofthem": {"all_at_rest": "web", "all_settled": "web"},
    "comings": {
        "without": "web house", "balance": "web house network", "end_buyers": "web", "end_sellers": "web",
    },
    "markets": {"replayed": "web journal"},
    "lies": {"told_instead": "web house choice", "least_lie": "web house"},
    "derivations": {
        "is_right_derivation": "web letters", "told_derivation": "web", "sure_contracts": "web",
        "possible_contracts": "web",
    },
    "money": {"profit": "web house network"},
    "stores": {"recovered": "disk"},
    "seen": {
        "explanation": "book", "refusal": "book", "is_right_refusal": "book clashes",
        "maker_explanation": "book buys", "maker_refusal": "book buys",
        "is_right_maker_refusal": "book buys clashes",
    },
    "lots": {"least_lot": "web network", "all_by_lots": "web"},
    "parts": {"parts_of": "web", "part_web": "web part"},
    "settling": {"settle_down": "web stand", "settle_up": "web stand"},
    "ladders": {"web_of_ladder": "ladder"},
    "deedtexts": {"write_journal": "deeds", "read_journal": "text"},
    "mirrors": {"mirror_of": "web"},
    "merging": {"merged": "web one other", "parted": "web house"},
    "walks": {"step_from": "web network", "walk": "web network"},
}
# Each class of the interface, with its methods and the names of their arguments.
CLASSES = {
    "talks": ("Talk", "web", {
        "known_open": "house", "known_asked": "house", "stands_by": "house", "post": "house", "waiting": "",
        "deliver": "index", "lose": "index", "double": "index", "is_quiet": "", "network": "",
    }),
    "markets": ("Market", "web", {
        "do": "deed", "web": "", "cancelled": "", "live_web": "", "best_for_buyers": "", "best_for_sellers": "",
        "verdict": "network", "journal": "",
    }),
    "stores": ("Store", "web", {
        "do": "deed", "checkpoint": "", "market_web": "", "cancelled": "", "disk": "", "writes": "",
    }),
}
# What returns an object with a state of its own.
OBJECTS = ("replayed", "recovered")
# What is asked for webs with few contracts only.
FEW = ("gaining_chains", "all_at_rest", "all_settled", "sure_contracts", "possible_contracts", "least_lot",
       "all_by_lots")
# Books that a list, a maker, or none of them explains.
BOOKS = ((), (((0, 1, 2), (0, 2)), ((1,), (1,))), (((0, 1), (0,)), ((0, 1), (1,))), (((0, 1), (0, 1)),))
LADDERS = (((), ()), ((("a", ("seller", 2, 3)), ("b", ("trader", 1, 0)), ("c", ("buyer", 1, 9))),
                     ((0, 1, 2, 4), (1, 2, 5, 6), (0, 2, -1, -1))))
DEEDS = (("choose", 0, ("split", (("table", ((1, 2),)), ("maker", 1, (), ())))), ("offer", 0, 1, -5), ("cancel", 3),
         ("undo",), ("redo",))
CLASHES = ((), (("ring", ((0, 0), (1, 1))),) * 3, (("many", 0),), (("left", 0, 1, 1),) * 3)
HUGE = 10 ** 5000
ERRORS = ("ContractError", "InvalidWeb", "NotSound", "BadText", "NoHouse", "NoContract", "NoLetter",
          "NothingToUndo", "NothingToRedo")


def fixed(value):
    """True if the value is made of tuples, strings, integers, True, False and None alone."""
    if isinstance(value, tuple):
        return all(fixed(item) for item in value)
    return value is None or isinstance(value, (str, int, bool))


def mergeable(web):
    """Some pairs of houses that can be merged, in both orders."""
    ring_of = importlib.import_module("nochaingains.webs").ring_of
    found = []
    for one in range(len(web[0])):
        for other in range(one):
            ends = [tuple(other if house == one else house for house in row[:2]) for row in web[1]]
            if all(seller != buyer for seller, buyer in ends):
                if ring_of((web[0], tuple(row + (0,) for row in ends))) is None:
                    found += [(web, one, other), (web, other, one)]
    return found[:6]


def partable(web):
    return [(web, house) for house, (_, choice) in enumerate(web[0]) if choice[0] == "split" and choice[1]]


def calls(web):
    """All functions on a sound web, with arguments for each."""
    many = len(web[1])
    everything, half = tuple(range(many)), tuple(range(0, many, 2))
    rest = tuple(range(1, many, 2))
    house = 0
    choice = web[0][house][1]
    texts = importlib.import_module("nochaingains.texts")
    stands = importlib.import_module("nochaingains.stands")
    top, bottom = stands.best_for_buyers(web), stands.best_for_sellers(web)
    network = stands.network_of(top)
    parts = importlib.import_module("nochaingains.parts").parts_of(web)
    values = {
        "web": (web,), "house": (house,), "text": (texts.write_web(web),), "offered": ((), half, everything),
        "choice": (choice,), "network": ((), half, network), "lot": (rest,), "one": (half, network),
        "other": (rest, network), "contracts": (half, everything[:1]), "offers": ((), everything, network),
        "stand": ((half, rest), top, bottom),
        "letters": ((), (("ask", 0), ("withdraw", 0)), (("ask", 0), ("ask", 0))),
        "disk": (((web, ()), ()), ((web, (0,)), (("choose", 0, ("sides", 0, (), 0, ())), ("undo",)))),
        "journal": ((), [("cancel", 0), ("undo",)], (("choose", 0, ("sides", 0, (), 0, ())), ("cancel", 0))),
        "book": BOOKS, "buys": ((), (1,), (0, 2)), "clashes": CLASHES, "part": parts,
        "ladder": LADDERS, "deeds": ((), DEEDS),
    }
    # What is asked only for some of the values, or for values that go together.
    chosen = {
        "join": [(web, top, bottom)], "meet": [(web, top, bottom)],
        "settle_down": [(web, (everything, ())), (web, top)],
        "settle_up": [(web, ((), everything)), (web, bottom)],
        "read_journal": [("",), (importlib.import_module("nochaingains.deedtexts").write_journal(DEEDS),)],
        "merged": mergeable(web), "parted": partable(web),
    }
    for module, functions in INTERFACE.items():
        for name, words in functions.items():
            function = getattr(importlib.import_module("nochaingains." + module), name)
            if name in chosen:
                for row in chosen[name]:
                    yield function, row
                continue
            # The one gets a lot that gains, the other one an end house with few contracts.
            if name in ("chain_within", "least_lie"):
                continue
            rows = [()]
            for word in words.split():
                rows = [row + (value,) for row in rows for value in values[word]]
            for row in rows:
                yield function, row


class InterfaceTest(unittest.TestCase):
    def test_functions_and_their_arguments(self):
        for module, functions in INTERFACE.items():
            loaded = importlib.import_module("nochaingains." + module)
            for name, words in functions.items():
                with self.subTest(module + "." + name):
                    function = getattr(loaded, name)
                    self.assertEqual(" ".join(inspect.signature(function).parameters), words)
                    self.assertEqual(function.__module__, "nochaingains." + module)

    def test_classes_and_their_methods(self):
        for module, (name, words, methods) in CLASSES.items():
            made = getattr(importlib.import_module("nochaingains." + module), name)
            self.assertEqual(made.__module__, "nochaingains." + module)
            self.assertEqual(" ".join(inspect.signature(made).parameters), words)
            for method, arguments in methods.items():
                with self.subTest(name + "." + method):
                    # Defined in the class itself, not in a base class.
                    function = vars(made)[method]
                    self.assertEqual(" ".join(inspect.signature(function).parameters), ("self " + arguments).strip())

    def test_errors_are_defined_in_their_file(self):
        loaded = importlib.import_module("nochaingains.errors")
        for name in ERRORS:
            self.assertEqual(getattr(loaded, name).__module__, "nochaingains.errors")

    def test_tests_stand_beside_the_package(self):
        folder = pathlib.Path(importlib.import_module("nochaingains").__file__).parent
        self.assertTrue((folder / "__init__.py").is_file())
        self.assertEqual(list(folder.glob("**/test*")), [])


class ErrorsTest(unittest.TestCase):
    def refused(self, error, call, *row):
        before = copy.deepcopy(row)
        # Arguments are not told: Python refuses to write out very long integers.
        with self.subTest(call.__name__, error=error.__name__):
            with self.assertRaises(errors.ContractError) as caught:
                call(*row)
            # Of this very class, and with one string.
            self.assertIs(type(caught.exception), error)
            self.assertEqual([type(word) for word in caught.exception.args], [str])
            self.assertEqual(row, before)

    def test_webs(self):
        check_web = importlib.import_module("nochaingains.webs").check_web
        houses, contracts = line_web()
        for wrong in (
            ((("A", FREE),), ()), ((("", FREE),), ()), ((("a", FREE), ("a", FREE)), ()), (houses, ((0, 0, 5),)),
            (houses, ((0, HUGE, 5),)), (houses, ((-HUGE, 0, 5),)), (houses, contracts + ((2, 0, HUGE),)),
            ((("a", ("maker", -HUGE, (), ())),), ()), ((("a", ("table", ((HUGE,),))),), ()),
            ((("a", ("sides", HUGE, (0,), 0, ())),), ()), ((("a", ("split", (("split", ()),))),), ()),
            ((("a", ("caps", (), (((), HUGE),), (), ())),), ()), ((("a", ("trader", 0, HUGE, (-1,), ())),), ()),
        ):
            self.refused(errors.InvalidWeb, check_web, wrong)

    def test_texts(self):
        texts = importlib.import_module("nochaingains.texts")
        read_journal = importlib.import_module("nochaingains.deedtexts").read_journal
        for text in ("x", "house a table", "contract a b 5\n", "house a maker " + "1" * 61 + " buys sells\n", "undo\n", "\n"):
            self.refused(errors.BadText, texts.read_web, text)
        self.refused(errors.InvalidWeb, texts.read_web, "house a maker -1 buys sells\n")
        for text in ("x", "undo", "house a table\n", "offer 0 1\n", "cancel " + "1" * 61 + "\n", "\n", "undo\n\n"):
            self.refused(errors.BadText, read_journal, text)

    def test_markets_and_stores(self):
        for module, name in (("markets", "Market"), ("stores", "Store")):
            made = getattr(importlib.import_module("nochaingains." + module), name)(hub(3, 0, FREE))
            for error, deed in (
                (errors.NothingToUndo, ("undo",)), (errors.NothingToRedo, ("redo",)),
                (errors.NoHouse, ("choose", 3, ("maker", -1, (), ()))), (errors.NoHouse, ("choose", -HUGE, FREE)),
                (errors.InvalidWeb, ("choose", 0, ("maker", -1, (), ()))),
                (errors.InvalidWeb, ("choose", 0, ("table", ((0, 1), (HUGE,))))),
                (errors.NotSound, ("choose", 0, ("table", ((0, 1), (2,))))),
                (errors.NoHouse, ("offer", 0, 3, 5)), (errors.NoHouse, ("offer", HUGE, HUGE, 5)),
                (errors.InvalidWeb, ("offer", 0, 0, 5)), (errors.InvalidWeb, ("offer", 0, 1, HUGE)),
                (errors.NoContract, ("cancel", 3)), (errors.NoContract, ("cancel", -1)), (errors.NoContract, ("cancel", HUGE)),
            ):
                self.refused(error, made.do, deed)
        replayed = importlib.import_module("nochaingains.markets").replayed
        self.refused(errors.NoContract, replayed, line_web(), (("cancel", 0), ("cancel", 0), ("redo",)))

    def test_talks(self):
        talk = importlib.import_module("nochaingains.talks").Talk(line_web())
        for call in (talk.deliver, talk.lose, talk.double):
            for index in (0, -1, HUGE, -HUGE):
                self.refused(errors.NoLetter, call, index)

    def test_merging(self):
        merging = importlib.import_module("nochaingains.merging")
        web = line_web()
        for one, other in ((0, 1), (1, 0), (0, 2), (2, 0)):
            self.refused(errors.InvalidWeb, merging.merged, web, one, other)
        for house in range(3):
            self.refused(errors.InvalidWeb, merging.parted, web, house)
        self.refused(errors.InvalidWeb, merging.parted, ((("a", ("split", ())),), ()), 0)


class KindsOfResultsTest(unittest.TestCase):
    def test_results_are_fixed_and_arguments_unchanged(self):
        webs = [random_web(seed, 4, 5) for seed in range(12)] + [busy_web(seed, 4, 5) for seed in range(6)]
        for web in webs + [line_web()]:
            for function, row in calls(web):
                before = copy.deepcopy(row)
                result = function(*row)
                self.assertEqual(row, before)
                if function.__name__ in OBJECTS:
                    continue
                self.assertTrue(fixed(result), (function.__name__, result))
                self.assertEqual(function(*before), result)

    def test_keywords(self):
        for function, row in calls(line_web()):
            names = list(inspect.signature(function).parameters)
            result = function(**dict(zip(names, row)))
            if function.__name__ not in OBJECTS:
                self.assertEqual(result, function(*row))

    def test_true_and_false(self):
        names = ("is_sound", "is_steady", "is_kept", "lot_gains", "likes", "is_chain", "judge", "is_at_rest",
                 "is_settled", "is_right_derivation", "is_right_refusal", "is_right_maker_refusal")
        for function, row in calls(busy_web(3, 4, 5)):
            self.assertEqual(isinstance(function(*row), bool), function.__name__ in names)

    def test_sets_are_in_order(self):
        names = ("choose", "told_offers", "network_of", "buys_of", "sells_of", "mentioned", "end_buyers",
                 "end_sellers")
        webs = [random_web(seed, 4, 6) for seed in range(10)] + [layered_web(seed, 5, 4, 40) for seed in range(3)]
        for web in webs:
            for function, row in calls(web):
                if function.__name__ in FEW:
                    continue
                if function.__name__ in names:
                    result = function(*row)
                    self.assertEqual(list(result), sorted(set(result)))
                if function.__name__ in ("next_stand", "best_for_buyers", "best_for_sellers", "join", "meet",
                                         "settle_down", "settle_up"):
                    self.assertEqual(len(function(*row)), 2)
                    for part in function(*row):
                        self.assertEqual(list(part), sorted(set(part)))


class BoundsTest(unittest.TestCase):
    def test_a_web_of_many_kinds(self):
        web = layered_web(5, 10, 3, 60)
        for function, row in calls(web):
            if function.__name__ not in FEW:
                function(*row)

    def test_many_groups_and_parts(self):
        groups = tuple((tuple(range(k % 30 + 1)), 20) for k in range(40))
        sellgroups = tuple((tuple(range(30, 31 + k % 30)), 20) for k in range(40))
        caps = ("caps", tuple(range(30)), groups, tuple(range(30, 60)), sellgroups)
        parts = tuple(("caps", tuple(range(3 * k, 3 * k + 3)), groups[4 * k:4 * k + 4], (), ()) for k in range(9))
        for choice in (caps, ("split", parts)):
            for function, row in calls(hub(30, 30, choice)):
                if function.__name__ not in FEW + ("least_break", "least_unsteady"):
                    function(*row)


if __name__ == "__main__":
    unittest.main()
