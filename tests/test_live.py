"""[26]: live books, and [1] to [4] as far as they speak of them."""

import random
import unittest

from everylevel.books import Book
from everylevel.clashes import least_clashes
from everylevel.errors import Clash, InvalidBook, InvalidDemand, NoDemand, NoName
from everylevel.following import follows
from everylevel.live import Live
from everylevel.solutions import can_be, span

from tests.tools import WIDE_BOOKS, any_values, drawn_bound, drawn_demand, reckoned, tried, wrong_demands


def grown(names, *demands):
    live = Live(names)
    for demand in demands:
        live.demand(demand)
    return live


class Refusing(unittest.TestCase):

    def refused(self, error, live, call, *arguments):
        """A deed that is refused: it changes nothing."""
        before, many = str(live.book), len(live)
        with self.assertRaises(error, msg=repr(arguments)[:80]) as caught:
            call(*arguments)
        self.assertIs(type(caught.exception), error)
        self.assertEqual((str(live.book), len(live)), (before, many))
        return caught.exception


class Making(unittest.TestCase):

    def test_at_first_without_demands(self):
        live = Live(["w", "u"])
        self.assertIs(type(live.book), Book)
        self.assertEqual(live.book, Book(["w", "u"]))
        self.assertEqual(len(live), 0)
        self.assertEqual(Live(names=("u",)).book, Book(["u"]))

    def test_wrong_names(self):
        for names in any_values() + [["max"], ("u", "imax"), ["u", "v", "u"], "u", "uv", {"u"}, {"u": 1}, iter(["u"]),
                                     Live(["u"]), [Live(["u"])]]:
            with self.assertRaises(InvalidBook, msg=repr(names)[:80]) as caught:
                Live(names)
            self.assertEqual(caught.exception.word, "names")

    def test_later_changes_have_no_effect(self):
        names = ["u"]
        live = Live(names)
        names.append("v")
        self.assertEqual(live.book.names, ("u",))

    def test_books_that_were_taken_stay_as_they_are(self):
        live = grown(["u", "v"], "u < v")
        book = live.book
        live.demand("v <= 4")
        live.drop(0)
        self.assertEqual(str(book), "names u v\nu < v")
        self.assertEqual(str(live.book), "names u v\nv <= 4")
        self.assertEqual(live.book, live.book)

    def test_not_compared_and_not_iterable(self):
        self.assertFalse(Live(["u"]) == Live(["u"]))
        for thing in (Live(["u"]), grown(["u"], "u <= 1")):
            with self.assertRaises(TypeError):
                iter(thing)


class Demand(Refusing):

    def test_follows_and_new(self):
        live = Live(["u", "v"])
        told = [live.demand(demand) for demand in ("u < v", "u <= v", "u < v", "1 <= v", "u <= u", "v <= u + 1", "v = u + 1")]
        self.assertEqual(told, ["new", "follows", "follows", "follows", "follows", "new", "follows"])
        self.assertEqual(live.book.demands, ("u < v", "u <= v", "u < v", "1 <= v", "u <= u", "v <= u + 1", "v = u + 1"))
        self.assertEqual(len(live), 7)
        self.assertEqual(Live(["u"]).demand(demand="0 <= u"), "follows")

    def test_only_those_ahead_count(self):
        live = Live(["u", "v"])
        self.assertEqual([live.demand("u <= v"), live.demand("u < v")], ["new", "new"])
        live.drop(1)
        self.assertEqual(live.demand("u < v + 1"), "follows")
        live.drop(0)
        self.assertEqual(live.demand("u <= v"), "follows")

    def test_against_trying(self):
        chance = random.Random(26)
        counts = {}
        for _ in range(150):
            names = chance.choice(("u", "uv", "vu"))
            plain = chance.random() < 0.5
            live = Live(list(names))
            for _ in range(5):
                demand = drawn_bound(chance, names) if plain else drawn_demand(chance, names, False)
                before = live.book
                after = before.with_demand(demand)
                if (after.reach + 4) ** len(names) > 2500:
                    continue
                true = reckoned(names, demand)
                if not tried(after, after.reach):
                    firsts = [Book(list(names), [*before.demands[:many], demand]) for many in range(len(before) + 1)]
                    at = [bool(tried(first, after.reach)) for first in firsts].index(False)
                    self.assertEqual(self.refused(Clash, live, live.demand, demand).at, at)
                    counts["clash", min(at, 2)] = counts.get(("clash", min(at, 2)), 0) + 1
                    continue
                told = live.demand(demand)
                rows = tried(before, after.reach + len(names))
                self.assertEqual(told, "follows" if all([true(*row) for row in rows]) else "new", str(after))
                self.assertEqual(live.book, after)
                counts[told] = counts.get(told, 0) + 1
        self.assertTrue(len(counts) == 5 and min(counts.values()) > 10, counts)

    def test_clashes(self):
        live = grown(["u", "v", "w"], "w <= 9", "u < v", "v <= w", "w <= 7", "u <= 3")
        for demand, at in (("u < u", 0), ("1 <= 0", 0), ("10 <= w", 1), ("v < u", 2), ("w <= u", 3), ("8 <= v", 4),
                           ("10 <= v", 3), ("4 <= u", 5), ("w + 1 <= max(u, v)", 3), ("max(u, v) <= u", 2)):
            self.assertEqual(self.refused(Clash, live, live.demand, demand).at, at, demand)
        self.assertEqual(len(live.book), 5)
        self.assertEqual(live.demand("6 <= w"), "new")

    def test_clashes_with_imax(self):
        live = grown(["u", "v"], "v <= 0", "imax(u, v) <= 3")
        self.assertEqual(self.refused(Clash, live, live.demand, "1 <= imax(u, v)").at, 1)
        self.assertEqual(live.demand("imax(u, v) = 0"), "follows")
        live.drop(2)
        live.drop(0)
        self.assertEqual(self.refused(Clash, live, live.demand, "4 <= imax(u, v)").at, 1)
        self.assertEqual(live.demand("1 <= imax(u, v)"), "new")

    def test_it_can_stand_where_nothing_else_is_in_its_way_any_more(self):
        live = grown(["u", "v"], "u < v", "v <= 3")
        self.assertEqual(self.refused(Clash, live, live.demand, "5 <= v").at, 2)
        live.drop(1)
        self.assertEqual(live.demand("5 <= v"), "new")
        self.assertEqual(live.book.demands, ("u < v", "5 <= v"))

    def test_wrong_demands(self):
        for live in (Live(["u", "v", "w"]), grown(["u", "v", "w"], "u < v", "v < w")):
            for demand in wrong_demands() + any_values() + ["x <= u", "u < max(v, x)", "uu = v", b"u <= v", {"u <= v"}, live]:
                self.refused(InvalidDemand, live, live.demand, demand)

    def test_at_the_limits(self):
        for text in WIDE_BOOKS:
            book = Book.read(text)
            live = Live(book.names)
            for at, demand in enumerate(book.demands):
                first = Book(book.names, book.demands[:at + 1])
                if can_be(first):
                    self.assertEqual(live.demand(demand) == "follows", follows(first.but(at), demand))
                else:
                    clash = [lot for lot in least_clashes(first) if at in lot]
                    least = min([max([-1, *[other for other in lot if other != at]]) + 1 for lot in clash])
                    self.assertEqual(self.refused(Clash, live, live.demand, demand).at, least)
                    break
            self.assertEqual(len(live.book), len(live))
            self.assertEqual(self.refused(Clash, live, live.demand, f"{book.names[0]} < 0").at, 0)


class Drop(Refusing):

    def test_drop(self):
        live = grown(["u", "v"], "u < v", "v <= 9", "u <= 3")
        self.assertEqual(live.drop(1), 2)
        self.assertEqual(live.book.demands, ("u < v", "u <= 3"))
        self.assertEqual(live.drop(at=1), 1)
        self.assertEqual(live.drop(0), 0)
        self.assertEqual(live.book.demands, ())
        self.assertEqual(len(live), 6)

    def test_of_demands_that_stand_twice(self):
        live = grown(["u"], "u <= 1", "u <= 2", "u <= 1")
        live.drop(2)
        self.assertEqual(live.book.demands, ("u <= 1", "u <= 2"))
        live.drop(0)
        self.assertEqual(live.book.demands, ("u <= 2",))

    def test_wrong_numbers(self):
        for live, many in ((Live(["u"]), 0), (grown(["u"], "u <= 1", "u <= 2"), 2)):
            things = any_values() + [many, many + 1, -1, -many, "0", "1", b"0", 99, {0: 1}, live]
            for at in things:
                if type(at) is not int or not 0 <= at < many:
                    self.assertIs(self.refused(NoDemand, live, live.drop, at).at, at)


class Undo(Refusing):

    def test_undo(self):
        live = grown(["u", "v"], "u < v", "v <= 9")
        live.drop(0)
        self.assertEqual([len(live), live.undo(), len(live), str(live.book)], [3, True, 2, "names u v\nu < v\nv <= 9"])
        self.assertEqual([live.undo(), str(live.book)], [True, "names u v\nu < v"])
        self.assertEqual([live.undo(), str(live.book), len(live)], [True, "names u v", 0])
        self.assertIs(live.undo(), False)
        self.assertIs(live.undo(), False)
        self.assertEqual((str(live.book), len(live)), ("names u v", 0))
        self.assertEqual(live.demand("u <= v"), "new")
        self.assertIs(live.undo(), True)

    def test_what_follows_is_taken_back_too(self):
        live = grown(["u"], "u <= 3", "u <= 3", "u <= u")
        self.assertEqual(len(live), 3)
        live.undo()
        self.assertEqual(live.book.demands, ("u <= 3", "u <= 3"))

    def test_what_was_refused_is_no_deed(self):
        live = grown(["u"], "u <= 3")
        self.refused(Clash, live, live.demand, "4 <= u")
        self.refused(NoDemand, live, live.drop, 1)
        self.refused(InvalidDemand, live, live.demand, "v <= u")
        self.assertEqual([live.undo(), live.undo()], [True, False])

    def test_against_a_list_of_books(self):
        chance = random.Random(261)
        for _ in range(25):
            live = Live(["u", "v"])
            past = [live.book]
            for _ in range(60):
                deed = chance.randrange(5)
                if deed < 3:
                    demand = drawn_bound(chance, "uv") if deed else chance.choice(("u <= u", "v <= u + 9"))
                    after = past[-1].with_demand(demand)
                    if len(past[-1]) < 8 and can_be(after):
                        live.demand(demand)
                        past.append(after)
                    elif len(past[-1]) < 8:
                        self.refused(Clash, live, live.demand, demand)
                elif deed == 3:
                    at = chance.randrange(8)
                    if at < len(past[-1]):
                        self.assertEqual(live.drop(at), len(past[-1]) - 1)
                        past.append(past[-1].but(at))
                    else:
                        self.refused(NoDemand, live, live.drop, at)
                else:
                    self.assertIs(live.undo(), len(past) > 1)
                    past = past[:-1] or past
                self.assertEqual(live.book, past[-1])
                self.assertEqual(len(live), len(past) - 1)


class Within(unittest.TestCase):

    def setUp(self):
        self.live = grown(["u", "v"], "u < v", "v <= 9")
        self.live.drop(1)

    def as_ahead(self):
        """The live book is as `setUp` left it, with all that could be taken back."""
        self.assertEqual(str(self.live.book), "names u v\nu < v")
        self.assertEqual(len(self.live), 3)
        for text in ("names u v\nu < v\nv <= 9", "names u v\nu < v", "names u v"):
            self.assertIs(self.live.undo(), True)
            self.assertEqual(str(self.live.book), text)
        self.assertIs(self.live.undo(), False)

    def test_it_is_called_with_the_live_book(self):
        seen = []
        thing = object()
        self.assertIs(self.live.within(lambda live: seen.append(live) or thing), thing)
        self.assertIs(seen[0], self.live)
        self.assertIsNone(self.live.within(work=lambda live: None))
        self.as_ahead()

    def test_deeds_are_taken_back(self):
        def work(live):
            told = [live.demand("v <= 4"), live.demand("u <= 3"), live.drop(0), len(live), len(live.book)]
            return told, live.book
        told, book = self.live.within(work)
        self.assertEqual(told, ["new", "follows", 2, 6, 2])
        self.assertEqual(str(book), "names u v\nv <= 4\nu <= 3")
        self.as_ahead()

    def test_what_is_taken_back_in_it_comes_again(self):
        def work(live):
            told = [live.undo(), live.undo(), live.undo(), live.undo(), live.demand("v < u")]
            return told, str(live.book), len(live)
        self.assertEqual(self.live.within(work), ([True, True, True, False, "new"], "names u v\nv < u", 1))
        self.as_ahead()

    def test_errors_go_on(self):
        for error in (KeyError("x"), NoName("x"), Clash(7), KeyboardInterrupt(), SystemExit(2), GeneratorExit()):
            def work(live):
                live.undo()
                live.demand("v <= 3")
                live.drop(0)
                raise error
            with self.assertRaises(type(error)) as caught:
                self.live.within(work)
            self.assertIs(caught.exception, error)
            self.assertEqual((str(self.live.book), len(self.live)), ("names u v\nu < v", 3))
        self.as_ahead()

    def test_errors_of_its_own_deeds_go_on(self):
        def clashing(live):
            live.demand("5 <= v")
            live.demand("v <= u + 3")
            live.demand("v <= 4")
        with self.assertRaises(Clash) as caught:
            self.live.within(clashing)
        self.assertEqual(caught.exception.at, 2)
        with self.assertRaises(NoDemand):
            self.live.within(lambda live: live.drop(live.drop(0)))
        with self.assertRaises(TypeError):
            self.live.within(lambda: 1)
        self.as_ahead()

    def test_caught_errors_change_nothing(self):
        def work(live):
            live.demand("v <= 5")
            try:
                live.demand("6 <= v")
            except Clash as clash:
                return clash.at, len(live)
        self.assertEqual(self.live.within(work), (2, 4))
        self.as_ahead()

    def test_within_another_one(self):
        def inner(live):
            live.undo()
            live.drop(0)
            live.demand("u = 7")
            return str(live.book), len(live)

        def failing(live):
            live.demand("v <= 8")
            raise ValueError("x")

        def outer(live):
            live.demand("v <= 5")
            told = live.within(inner)
            told = (*told, str(live.book), len(live))
            try:
                live.within(failing)
            except ValueError:
                told = (*told, str(live.book), len(live))
            live.undo()
            return (*told, live.within(len), str(live.book))

        mine = "names u v\nu < v\nv <= 5"
        self.assertEqual(self.live.within(outer), ("names u v\nu = 7", 5, mine, 4, mine, 4, 3, "names u v\nu < v"))
        self.as_ahead()

    def test_the_live_book_of_another_one(self):
        other = Live(["x"])
        self.assertEqual(self.live.within(lambda live: other.demand("x <= 3")), "new")
        self.assertEqual((str(other.book), len(other)), ("names x\nx <= 3", 1))
        self.assertEqual(self.live.within(lambda live: other.within(lambda inner: span(inner.book, "x"))), (0, 3))
        self.as_ahead()

    def test_it_goes_on_afterwards(self):
        self.live.within(lambda live: live.demand("v <= 3"))
        self.assertEqual(self.live.demand("5 <= v"), "new")
        self.assertEqual((str(self.live.book), len(self.live)), ("names u v\nu < v\n5 <= v", 4))
        self.live.undo()
        self.as_ahead()


if __name__ == "__main__":
    unittest.main()
