"""[1] to [4] over the whole program: each function and method of the interface, called again and with any values."""

import copy
import unittest

from everylevel import errors
from everylevel.books import Book
from everylevel.clashes import least_clashes, needless, struck
from everylevel.definitions import Definition, Library
from everylevel.desk import Desk
from everylevel.following import counter, denials, excess, follows, no_wider, unlike
from everylevel.leaving import between, joined, without
from everylevel.levels import alike, atoms, names_of, never_above, parting, put_for, value
from everylevel.live import Live
from everylevel.papers import bounds, paper, paper_holds
from everylevel.solutions import can_be, highest, lowest, some_numbers, span

from tests.test_form import INTERFACE
from tests.tools import any_values, nested

BOOK = Book.read("names u v w\nu + 1 <= max(v, w)\nv <= w")
WRONG = Book.read("names u v w\nu + 1 <= max(u, v)\nv < u\nw <= 3")
MIXED = Book.read("names v u\n2 <= imax(u, v)\nu <= 3\nimax(v, u) <= v + 1")
UPPER, LOWER = Book.read("names u x\nu + 2 <= x\nx <= 4"), Book.read("names u y\n3 <= max(u, y)\ny < 2")
PAIR = Definition("pair", ["u", "v"], ["x"], ["u < x", "x <= v"])
TWICE = Definition("tw", ["u"], ["y"], ["y <= 5"], [("pair", ["u", "y"]), ("pair", ["y", "6"])])
LIBRARY = Library([PAIR, TWICE])


def shown(thing):
    """Any value or dict as a text, so that it can be held against what it was."""
    if isinstance(thing, dict):
        return str({shown(key): shown(worth) for key, worth in thing.items()})
    if isinstance(thing, (list, tuple)):
        return f"{type(thing).__name__}({', '.join([shown(part) for part in thing])})"
    if isinstance(thing, Live):
        return f"{shown(thing.book)} {len(thing)}"
    if isinstance(thing, Desk):
        return f"desk {shown(thing.live)}"
    if hasattr(thing, "__dict__"):
        return f"{type(thing).__name__} {shown(vars(thing))}"
    return repr(thing)


# Of each call the names of the parameters and what is passed. Nothing in it is an object that changes.
CALLS = [
    (names_of, {"level": "max(v, u + 1)"}),
    (value, {"level": "imax(u + 1, v)", "numbers": {"u": 3, "v": 2, "w": 9}}),
    (put_for, {"level": "max(u, v + 1)", "others": {"u": "max(v, 2)", "v": "u + 3", "x": "1"}}),
    (atoms, {"level": "max(imax(u + 1, v), w, 2)", "zeros": ["v", "w"]}),
    (never_above, {"one": "imax(u, v)", "other": "max(u, v)"}),
    (alike, {"one": "imax(u, v)", "other": "max(u, v)"}),
    (parting, {"one": "imax(u, v)", "other": "max(u, v)"}),
    (Book, {"names": ["u", "v"], "demands": ["u < v"]}),
    (Book.read, {"text": "names u v\nu < v"}),
    (BOOK.with_demand, {"demand": "u < w"}),
    (BOOK.but, {"at": 1}),
    (BOOK.broken, {"numbers": [0, 2, 1]}),
    (BOOK.keeps, {"numbers": [0, 0, 1]}),
    (can_be, {"book": MIXED}),
    (some_numbers, {"book": MIXED}),
    (highest, {"book": BOOK, "tops": [5, 9, 3]}),
    (lowest, {"book": MIXED}),
    (span, {"book": MIXED, "name": "u"}),
    (follows, {"book": MIXED, "demand": "u <= v"}),
    (counter, {"book": MIXED, "demand": "u < v"}),
    (excess, {"book": BOOK, "level": "max(u, v)", "other": "w"}),
    (no_wider, {"one": BOOK, "other": WRONG}),
    (unlike, {"one": BOOK, "other": WRONG}),
    (denials, {"demand": "u = v + 1"}),
    (bounds, {"book": MIXED, "zeros": ["v"]}),
    (paper, {"book": WRONG}),
    (paper_holds, {"book": WRONG, "value": paper(WRONG)}),
    (without, {"book": BOOK, "names": ["v"]}),
    (joined, {"one": UPPER, "other": LOWER}),
    (between, {"one": UPPER, "other": LOWER}),
    (least_clashes, {"book": WRONG}),
    (struck, {"book": WRONG}),
    (needless, {"book": WRONG}),
    (Definition, {"name": "tw", "params": ["u"], "inner": ["y"], "demands": ["y <= 5"], "calls": [("pair", ["u", "y"])]}),
    (Library, {"definitions": [PAIR, TWICE]}),
    (LIBRARY.lets, {"name": "tw", "numbers": [4]}),
    (LIBRARY.face, {"name": "pair"}),
    (LIBRARY.fits, {"name": "pair", "book": BOOK, "levels": ["u", "w"]}),
    (LIBRARY.stuck, {}),
    (Live, {"names": ["u", "v"]}),
    (Desk, {}),
]


def told(call, arguments, named):
    return shown(call(**arguments) if named else call(*arguments.values()))


class Again(unittest.TestCase):

    def test_each_call_tells_the_same_again(self):
        first = [told(call, arguments, False) for call, arguments in CALLS]
        for named in (True, False):
            for at, (call, arguments) in reversed(list(enumerate(CALLS))):
                self.assertEqual(told(call, arguments, named), first[at], call)

    def test_objects_that_are_made_anew_tell_the_same(self):
        for call, arguments in CALLS:
            self.assertEqual(told(call, copy.deepcopy(arguments), False), told(call, arguments, False), call)

    def test_a_tuple_in_the_place_of_a_list(self):
        for call, arguments in CALLS:
            as_tuples = {name: tuple(thing) if isinstance(thing, list) else thing for name, thing in arguments.items()}
            self.assertEqual(told(call, as_tuples, True), told(call, arguments, True), call)

    def test_arguments_are_not_changed(self):
        for call, arguments in CALLS:
            before = shown(arguments), shown([BOOK, WRONG, MIXED, PAIR, TWICE, LIBRARY])
            told(call, arguments, True)
            self.assertEqual((shown(arguments), shown([BOOK, WRONG, MIXED, PAIR, TWICE, LIBRARY])), before, call)

    def test_results_are_not_those_of_the_caller(self):
        """Lists that are changed behind a call change nothing in what was returned."""
        for call, arguments in CALLS:
            passed = copy.deepcopy(arguments)
            result = call(**passed)
            before = shown(result)
            for thing in passed.values():
                if isinstance(thing, list):
                    thing.reverse()
                    thing.append("x")
                elif isinstance(thing, dict):
                    thing.clear()
            self.assertEqual(shown(result), before, call)

    def test_returned_sequences_are_tuples(self):
        def held(thing):
            self.assertNotIsInstance(thing, (list, set))
            for part in thing if isinstance(thing, tuple) else ():
                held(part)
        for call, arguments in CALLS:
            result = call(**arguments)
            held(result)
            for name in ("names", "demands", "params", "inner", "calls", "definitions"):
                if hasattr(result, name):
                    self.assertIsInstance(getattr(result, name), tuple)
                    held(getattr(result, name))

    def test_yes_and_no_are_bools(self):
        yes_or_no = {"never_above", "alike", "keeps", "can_be", "follows", "no_wider", "paper_holds", "lets", "fits"}
        seen = {call.__name__ for call, arguments in CALLS if type(call(**arguments)) is bool}
        self.assertEqual(seen, yes_or_no)

    def test_the_whole_interface_is_called(self):
        called = {call.__name__ for call, _ in CALLS}
        for module, names in INTERFACE.items():
            for name in names:
                word = name.split(".")[-1]
                if module not in ("errors", "live", "desk") and not word.startswith("__") and word not in ("is_plain", "reach"):
                    self.assertIn(word, called)

    def test_live_books_and_desks_while_they_do_not_change(self):
        live = Live(["u", "v"])
        live.demand("u < v")
        before = shown(live)
        for _ in range(3):
            self.assertEqual((live.book, len(live)), (Book(["u", "v"], ["u < v"]), 1))
            self.assertEqual(live.within(lambda book: [book.demand("v <= 2"), book.undo(), book.undo(), book.undo()]),
                             ["new", True, True, False])
            self.assertEqual(shown(live), before)
        desk = Desk()
        desk.say("names u v")
        desk.say("demand 2 <= max(u, v)")
        before = shown(desk)
        for _ in range(3):
            self.assertEqual([desk.say(word) for word in ("lowest", "span u", "follows u <= v")], ["0 2, 2 0", "0 any", "no"])
            self.assertEqual(shown(desk), before)


class AnyValue(unittest.TestCase):
    """Where a point says "any value", nothing other than the described errors is raised."""

    THINGS = any_values() + [
        nested("u", 7), nested((), 8), [None] * 3, ("u", None), [[], ["u"]], ["names", "u"], "names u", "u", "v", "u <= v",
        "max(u, v)", "imax(u, v) <= u", 99, -7, True, ("pair", ["u"]), [("pair", ["u"])], ["u"], ("u", "v"), [3, 4, 5],
        PAIR, LIBRARY, [PAIR, PAIR], (TWICE,), (PAIR, TWICE), Live(["u"]), Desk(), errors.Clash(None), BOOK, [BOOK, MIXED],
        (((), ()),), ((), ("u",)), ((("",), ()),), paper(WRONG), paper(WRONG)[:2], (paper(WRONG)[0],) * 8,
    ]

    # Of each call the parameters that take any value, and the errors that they can have.
    SLOTS = [
        (names_of, {"level": "u"}, "level", errors.InvalidLevel),
        (value, {"level": "u", "numbers": {"u": 1, "v": 1}}, "level", errors.InvalidLevel),
        (put_for, {"level": "u", "others": {}}, "level", errors.InvalidLevel),
        (atoms, {"level": "u", "zeros": []}, "level", errors.InvalidLevel),
        (never_above, {"one": "u", "other": "u"}, "one", errors.InvalidLevel),
        (never_above, {"one": "u", "other": "u"}, "other", errors.InvalidLevel),
        (alike, {"one": "u", "other": "u"}, "one", errors.InvalidLevel),
        (alike, {"one": "u", "other": "u"}, "other", errors.InvalidLevel),
        (parting, {"one": "u", "other": "u"}, "one", errors.InvalidLevel),
        (parting, {"one": "u", "other": "u"}, "other", errors.InvalidLevel),
        (Book, {"names": ["u"], "demands": []}, "names", errors.InvalidBook),
        (Book, {"names": ["u"], "demands": []}, "demands", errors.InvalidBook),
        (Book.read, {"text": ""}, "text", errors.InvalidText),
        (BOOK.with_demand, {"demand": ""}, "demand", errors.InvalidDemand),
        (BOOK.broken, {"numbers": []}, "numbers", errors.InvalidNumbers),
        (BOOK.keeps, {"numbers": []}, "numbers", errors.InvalidNumbers),
        (highest, {"book": BOOK, "tops": []}, "tops", errors.InvalidNumbers),
        (span, {"book": BOOK, "name": "u"}, "name", errors.NoName),
        (follows, {"book": BOOK, "demand": ""}, "demand", errors.InvalidDemand),
        (counter, {"book": BOOK, "demand": ""}, "demand", errors.InvalidDemand),
        (excess, {"book": BOOK, "level": "u", "other": "u"}, "level", errors.InvalidLevel),
        (excess, {"book": BOOK, "level": "u", "other": "u"}, "other", errors.InvalidLevel),
        (denials, {"demand": ""}, "demand", errors.InvalidDemand),
        (paper_holds, {"book": WRONG, "value": None}, "value", ()),
        (Definition, {"name": "a", "params": ["u"], "inner": [], "demands": []}, "name", errors.InvalidDefinition),
        (Definition, {"name": "a", "params": ["u"], "inner": [], "demands": []}, "params", errors.InvalidDefinition),
        (Definition, {"name": "a", "params": ["w"], "inner": [], "demands": []}, "inner", errors.InvalidDefinition),
        (Definition, {"name": "a", "params": ["u", "v"], "inner": [], "demands": []}, "demands", errors.InvalidDefinition),
        (Definition, {"name": "a", "params": ["u"], "inner": [], "demands": [], "calls": []}, "calls", errors.InvalidDefinition),
        (Library, {"definitions": []}, "definitions", errors.InvalidLibrary),
        (LIBRARY.lets, {"name": "tw", "numbers": [1]}, "name", errors.NoName),
        (LIBRARY.lets, {"name": "tw", "numbers": [1]}, "numbers", errors.InvalidNumbers),
        (LIBRARY.face, {"name": "tw"}, "name", errors.NoName),
        (LIBRARY.fits, {"name": "tw", "book": BOOK, "levels": ["u"]}, "name", errors.NoName),
        (Live, {"names": ["u"]}, "names", errors.InvalidBook),
        (Live(["u", "v"]).demand, {"demand": ""}, "demand", errors.InvalidDemand),
        (Live(["u", "v"]).drop, {"at": 0}, "at", errors.NoDemand),
        (Desk().say, {"command": ""}, "command", errors.InvalidCommand),
    ]

    # Of each call the sequences of which each thing takes any value.
    WITHIN = [
        (Book, {"names": ["u", "v"], "demands": []}, "names", errors.InvalidBook),
        (Book, {"names": ["u", "v"], "demands": ["u < v", "v < u"]}, "demands", errors.InvalidBook),
        (BOOK.broken, {"numbers": [1, 2, 3]}, "numbers", errors.InvalidNumbers),
        (BOOK.keeps, {"numbers": [1, 2, 3]}, "numbers", errors.InvalidNumbers),
        (highest, {"book": BOOK, "tops": [1, 2, 3]}, "tops", errors.InvalidNumbers),
        (without, {"book": Book(["u", "v", "z"]), "names": ["u"]}, "names", errors.NoName),
        (put_for, {"level": "max(u, v)", "others": {"u": "1", "v": "2"}}, "others", errors.InvalidLevel),
        (Definition, {"name": "a", "params": ["u", "v"], "inner": [], "demands": []}, "params", errors.InvalidDefinition),
        (Definition, {"name": "a", "params": ["w"], "inner": ["x"], "demands": []}, "inner", errors.InvalidDefinition),
        (Definition, {"name": "a", "params": ["u", "v"], "inner": [], "demands": ["u < v"]}, "demands", errors.InvalidDefinition),
        (Definition, {"name": "a", "params": ["u"], "inner": [], "demands": [], "calls": [("b", ["u"])]}, "calls",
         errors.InvalidDefinition),
        (Library, {"definitions": [PAIR, TWICE]}, "definitions", errors.InvalidLibrary),
        (LIBRARY.lets, {"name": "pair", "numbers": [1, 2]}, "numbers", errors.InvalidNumbers),
        (LIBRARY.fits, {"name": "pair", "book": BOOK, "levels": ["u", "v"]}, "levels", errors.InvalidLevel),
        (Live, {"names": ["u", "v"]}, "names", errors.InvalidBook),
    ]

    def only(self, error, call, arguments):
        """The call returns something, or raises just this error. Whether it did so."""
        before = shown(arguments)
        try:
            call(**arguments)
        except error as raised:
            self.assertIs(type(raised), error)
            return False
        except Exception as raised:
            self.fail(f"{raised!r} from {call} with {before[:90]}")
        finally:
            self.assertEqual(shown(arguments), before)
        return True

    def test_in_the_place_of_each_argument(self):
        for call, arguments, name, error in self.SLOTS:
            for thing in self.THINGS:
                self.only(error, call, {**arguments, name: thing})

    def test_in_each_place_of_a_sequence(self):
        for call, arguments, name, error in self.WITHIN:
            passed = arguments[name]
            for at in passed if isinstance(passed, dict) else range(len(passed)):
                for thing in self.THINGS:
                    changed = copy.copy(passed)
                    changed[at] = thing
                    self.only(error, call, {**arguments, name: changed})

    def test_what_is_wrong_for_all_of_them(self):
        """Values that no parameter takes are refused with the error, not taken for something else."""
        takes_all = (paper_holds,)
        for call, arguments, name, error in self.SLOTS:
            for thing in (None, "U", -1, Book(["u"]), errors.InvalidLevel(), [None], ("U",), [["u"]]):
                if call not in takes_all:
                    self.assertFalse(self.only(error, call, {**arguments, name: thing}), (call, name, thing))

    def test_any_value_is_no_paper(self):
        for thing in self.THINGS:
            for book in (BOOK, WRONG, MIXED):
                self.assertIs(paper_holds(book, thing), book is WRONG and thing == paper(WRONG))

    def test_what_errors_keep(self):
        for thing in self.THINGS:
            for call in (LIBRARY.face, lambda name: span(BOOK, name), lambda name: without(BOOK, ["u", name])):
                if not isinstance(thing, str) or thing not in ("u", "v"):
                    with self.assertRaises(errors.NoName) as caught:
                        call(thing)
                    self.assertIs(caught.exception.name, thing)
            with self.assertRaises(errors.NoDemand) as caught:
                Live(["u"]).drop(thing)
            self.assertIs(caught.exception.at, thing)


class Objects(unittest.TestCase):

    def test_not_iterable(self):
        desk, live = Desk(), Live(["u"])
        live.demand("u <= 3")
        for thing in (BOOK, PAIR, LIBRARY, Library([]), live, desk, errors.NoName("u"), errors.InvalidLevel()):
            with self.assertRaises(TypeError):
                iter(thing)
            with self.assertRaises(TypeError):
                list(thing)

    def test_equal_to_nothing_of_another_class(self):
        for one in (BOOK, PAIR):
            for other in AnyValue.THINGS + [BOOK.names, str(BOOK), vars(BOOK)]:
                if type(other) is not type(one):
                    self.assertFalse(one == other)
                    self.assertFalse(other == one)
                    self.assertTrue(one != other)

    def test_others_are_not_compared(self):
        for make in (lambda: Library([PAIR]), lambda: Live(["u"]), Desk):
            self.assertFalse(make() == make())


if __name__ == "__main__":
    unittest.main()
