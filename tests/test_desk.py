"""[27] and [28]: desks, and [1] to [4] as far as they speak of them."""

import random
import unittest

from everylevel.books import Book
from everylevel.desk import Desk
from everylevel.errors import Clash, InvalidBook, InvalidCommand, InvalidDemand, NoDemand, NoName
from everylevel.following import follows
from everylevel.live import Live
from everylevel.solutions import lowest, span

from tests.tools import any_values, drawn_bound, drawn_demand, wrong_demands

FORMS = ["names u", "demand u <= u", "drop 0", "follows u <= u", "span u", "lowest", "undo"]

# Commands that are not of one of the forms.
WRONG = [
    "", " ", "  ", "\n", "u", "name u", "Names u", "NAMES u", "named", "help", "book", "len",
    "names", "demand", "drop", "follows", "span", "lowest u", "lowest 0", "undo 1", "undo undo",
    "span u v", "span u <= v", "drop 0 1", "drop u", "drop -1", "drop +1", "drop 00", "drop 01", "drop 100",
    "drop 000", "drop 1.0", "drop 1_0", "drop 0x1", "drop \u0661", "drop \u00b2", "drop \uff11", "drop one",
    "drop a1", "drop 1a", "namesu", "names\tu", "demand\tu <= u", "lowest\t", "undo\t", "undo,", "drop0",
]


def spoiled():
    """Each form with a newline, or with an empty word, at each place where one can stand."""
    found = []
    for form in FORMS:
        found += [" " + form, form + " ", form.replace(" ", "  "), form + "\n", "\n" + form, form + "\nundo"]
        found += [form[:at] + "\n" + form[at:] for at in range(1, len(form))]
    return [command for command in found if command not in FORMS]


def told(desk):
    """What a desk keeps."""
    return None if desk.live is None else (str(desk.live.book), len(desk.live))


class Commands(unittest.TestCase):

    def test_names(self):
        desk = Desk()
        self.assertIsNone(desk.live)
        self.assertEqual(desk.say("names u v w"), "3")
        self.assertIs(type(desk.live), Live)
        self.assertEqual(told(desk), ("names u v w", 0))
        desk.say("demand u < v")
        first = desk.live
        self.assertEqual(desk.say("names x"), "1")
        self.assertEqual(told(desk), ("names x", 0))
        self.assertEqual(str(first.book), "names u v w\nu < v")
        self.assertEqual(desk.say("undo"), "nothing")

    def test_demand(self):
        desk = Desk()
        desk.say("names u v")
        self.assertEqual([desk.say(f"demand {text}") for text in ("u < v", "u <= v", "max(u, v) <= v", "v < u + 2")],
                         ["new", "follows", "follows", "new"])
        self.assertEqual(told(desk), ("names u v\nu < v\nu <= v\nmax(u, v) <= v\nv < u + 2", 4))

    def test_drop(self):
        desk = Desk()
        desk.say("names u")
        for many in range(1, 13):
            desk.say(f"demand u <= {many}")
        self.assertEqual([desk.say("drop 11"), desk.say("drop 0"), desk.say("drop 9")], ["11", "10", "9"])
        self.assertEqual(desk.live.book.demands, tuple([f"u <= {many}" for many in range(2, 11)]))

    def test_follows(self):
        desk = Desk()
        desk.say("names u v")
        desk.say("demand u < v")
        self.assertEqual([desk.say(f"follows {text}") for text in ("u <= v", "v <= u", "1 <= v", "imax(v, u) <= v", "0 < u")],
                         ["yes", "no", "yes", "yes", "no"])
        self.assertEqual(told(desk), ("names u v\nu < v", 1))

    def test_span(self):
        desk = Desk()
        desk.say("names u v w")
        desk.say("demand u < v")
        desk.say("demand v <= 5")
        self.assertEqual([desk.say(f"span {name}") for name in "uvw"], ["0 4", "1 5", "0 any"])

    def test_lowest(self):
        desk = Desk()
        desk.say("names u v")
        self.assertEqual(desk.say("lowest"), "0 0")
        desk.say("demand 12 <= max(u, v)")
        self.assertEqual(desk.say("lowest"), "0 12, 12 0")
        desk.say("demand u <= max(11, v + 9)")
        self.assertEqual(desk.say("lowest"), "0 12, 12 3")
        self.assertEqual((desk.say("names w"), desk.say("demand 7 <= w"), desk.say("lowest")), ("1", "new", "7"))

    def test_undo(self):
        desk = Desk()
        desk.say("names u")
        self.assertEqual(desk.say("undo"), "nothing")
        desk.say("demand u <= 3")
        desk.say("drop 0")
        self.assertEqual([desk.say("undo"), str(desk.live.book)], ["undone", "names u\nu <= 3"])
        self.assertEqual([desk.say("undo"), desk.say("undo"), told(desk)], ["undone", "nothing", ("names u", 0)])

    def test_words_that_are_names_or_texts_too(self):
        desk = Desk()
        self.assertEqual(desk.say("names drop span undo"), "3")
        self.assertEqual(desk.say("demand drop < span"), "new")
        self.assertEqual(desk.say("span drop"), "0 any")
        self.assertEqual(desk.say("follows drop <= span"), "yes")

    def test_by_the_name_of_the_parameter(self):
        desk = Desk()
        self.assertEqual(desk.say(command="names u"), "1")
        self.assertEqual(desk.say(command="span u"), desk.say("span u"))

    def test_the_live_book_is_kept_itself(self):
        desk = Desk()
        desk.say("names u v")
        live = desk.live
        live.demand("u <= 4")
        self.assertEqual(desk.say("span u"), "0 4")
        desk.say("demand v < u")
        self.assertIs(desk.live, live)
        self.assertEqual(len(live), 2)
        self.assertEqual(live.within(lambda book: [book.drop(0), desk.say("span u"), desk.say("demand v = 3")]),
                         [1, "1 any", "new"])
        self.assertEqual(told(desk), ("names u v\nu <= 4\nv < u", 2))

    def test_against_the_functions(self):
        chance = random.Random(27)
        for _ in range(40):
            names = chance.choice(("u", "uv", "vu", "uvw"))
            plain = chance.random() < 0.5
            desk = Desk()
            desk.say("names " + " ".join(names))
            live = Live(list(names))
            for _ in range(4):
                demand, asked = [drawn_bound(chance, names) if plain else drawn_demand(chance, names, False) for _ in "12"]
                try:
                    wanted = live.demand(demand)
                except Clash as clash:
                    with self.assertRaises(Clash) as caught:
                        desk.say(f"demand {demand}")
                    self.assertEqual(caught.exception.at, clash.at)
                else:
                    self.assertEqual(desk.say(f"demand {demand}"), wanted)
                self.assertEqual(desk.say(f"follows {asked}"), "yes" if follows(live.book, asked) else "no")
                if live.book.reach <= 16:
                    self.assertEqual(desk.say("lowest"), lowest_text(desk))
                least, most = span(live.book, names[0])
                self.assertEqual(desk.say(f"span {names[0]}"), f"{least} any" if most is None else f"{least} {most}")
                self.assertEqual(desk.live.book, live.book)


def lowest_text(desk):
    return ", ".join([" ".join([str(number) for number in row]) for row in lowest(desk.live.book)])


class Refused(unittest.TestCase):

    def refused(self, error, desk, command):
        before, live = told(desk), desk.live
        with self.assertRaises(error, msg=repr(command)[:80]) as caught:
            desk.say(command)
        self.assertIs(type(caught.exception), error)
        self.assertEqual(told(desk), before)
        self.assertIs(desk.live, live)
        return caught.exception

    def desks(self):
        """A desk without a live book, and some with one."""
        empty, grown = Desk(), Desk()
        empty.say("names u v")
        grown.say("names u v")
        grown.say("demand u < v")
        grown.say("demand v <= 5")
        return [Desk(), empty, grown]

    def test_no_forms(self):
        for desk in self.desks():
            for command in any_values() + WRONG + spoiled() + [b"undo", ["undo"], ("names", "u"), {"undo"}, Desk(), desk]:
                self.refused(InvalidCommand, desk, command)

    def test_without_a_live_book(self):
        for command in FORMS + ["demand u", "demand 1", "drop 99", "follows u", "span U", "span 1"]:
            if not command.startswith("names"):
                desk = Desk()
                self.refused(InvalidCommand, desk, command)
                with self.assertRaises(InvalidBook):
                    desk.say("names u u")
                self.refused(InvalidCommand, desk, command)
                desk.say("names u")

    def test_wrong_names(self):
        for desk in self.desks():
            for words in ("U", "u u", "max", "u imax", "u1", "abcde", "1", "u, v", "u\tv", "u\r", "\u00fc", "u <= v"):
                self.assertEqual(self.refused(InvalidBook, desk, f"names {words}").word, "names")

    def test_wrong_demands(self):
        for desk in self.desks()[1:]:
            for text in wrong_demands() + ["x <= u", "u < max(v, x)", "u", "u <= v\t", "u\t<= v", "u <=", "0"]:
                if isinstance(text, str) and "\n" not in text and "" not in text.split(" "):
                    self.refused(InvalidDemand, desk, f"demand {text}")
                    self.refused(InvalidDemand, desk, f"follows {text}")

    def test_clashes(self):
        _, empty, grown = self.desks()
        self.assertEqual(self.refused(Clash, empty, "demand u < u").at, 0)
        for text, at in (("1 <= 0", 0), ("v < u", 1), ("6 <= v", 2), ("5 <= u", 2), ("7 <= imax(u, v)", 2)):
            self.assertEqual(self.refused(Clash, grown, f"demand {text}").at, at)
        self.assertEqual(grown.say("follows 1 <= 0"), "no")

    def test_numbers_of_no_demand(self):
        _, empty, grown = self.desks()
        for desk, many in ((empty, 0), (grown, 2)):
            for at in (many, many + 1, 9, 10, 99):
                found = self.refused(NoDemand, desk, f"drop {at}").at
                self.assertEqual(found, at)
                self.assertIs(type(found), int)

    def test_names_of_no_book(self):
        for desk in self.desks()[1:]:
            for name in ("w", "U", "max", "1", "uv", "u,", "u\t", "\u00fc", "max(u,"):
                self.assertEqual(self.refused(NoName, desk, f"span {name}").name, name)

    def test_the_form_is_looked_at_first(self):
        desk = self.desks()[2]
        for command in ("demand x  <= u", "demand v < u ", "demand v\n< u", "drop 05", "drop 999", "span w x", "span  w",
                        "names U ", "names u  u", "follows x <= ", "names u u\n"):
            self.refused(InvalidCommand, desk, command)

    def test_errors_of_the_live_book_change_nothing(self):
        desk = self.desks()[2]
        for error, command in ((InvalidBook, "names u u"), (InvalidDemand, "demand x < u"), (Clash, "demand v < u"),
                               (NoDemand, "drop 7"), (NoName, "span x"), (InvalidCommand, "undo 1")):
            self.refused(error, desk, command)
        self.assertEqual([desk.say("undo"), desk.say("undo"), desk.say("undo")], ["undone", "undone", "nothing"])

    def test_each_desk_has_its_own_live_book(self):
        one, other = Desk(), Desk()
        one.say("names u")
        self.assertIsNone(other.live)
        other.say("names u")
        one.say("demand u <= 3")
        self.assertEqual(other.say("span u"), "0 any")
        self.assertFalse(one == other)
        with self.assertRaises(TypeError):
            iter(one)
        self.assertEqual(other.live.book, Book(["u"]))


if __name__ == "__main__":
    unittest.main()
