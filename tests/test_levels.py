"""[5] to [7]: levels, their values and atoms, and how they compare."""

import itertools
import random
import unittest

from everylevel.errors import InvalidLevel, NoName
from everylevel.levels import alike, atoms, names_of, never_above, parting, put_for, value

from tests.tools import RIGHT_DEMANDS, RIGHT_LEVELS, WRONG_LEVELS
from tests.tools import all_numbers, any_values, changed, put_in, text_of, top_of, tree, worth_of

WRONG = WRONG_LEVELS + RIGHT_DEMANDS
LETTERS = "abcdefghijklmnopqrstuvwxyz"


def drawn(seed, many, names, depth=3):
    chance = random.Random(seed)
    return [tree(chance, names, depth) for _ in range(many)]


class Forms(unittest.TestCase):

    def test_right_levels(self):
        for level in RIGHT_LEVELS:
            self.assertIsInstance(names_of(level), tuple, level)

    def test_wrong_levels(self):
        for level in WRONG + any_values():
            calls = [
                lambda: names_of(level), lambda: value(level, {"u": 1, "v": 1, "w": 1}),
                lambda: put_for(level, {"u": "v"}), lambda: atoms(level, ["u"]),
                lambda: never_above(level, "u"), lambda: never_above("u", level),
                lambda: alike(level, "u"), lambda: alike("u", level),
                lambda: parting(level, "u"), lambda: parting("u", level),
            ]
            for call in calls:
                with self.assertRaises(InvalidLevel, msg=repr(level)[:60]):
                    call()

    def test_each_character_at_the_ends(self):
        for character in map(chr, range(32, 127)):
            for level in (f"max(u, v){character}", f"{character}max(u, v)", f"u + 3{character}", f"{character}u"):
                right = ["imax(u, v)", *[f"u + 3{k}" for k in range(10)], *[f"{a}u" for a in LETTERS]]
                if level in right:
                    self.assertIn("u", names_of(level)[0])
                else:
                    with self.assertRaises(InvalidLevel, msg=level):
                        names_of(level)

    def test_each_cut_of_a_level_is_wrong(self):
        level = "max(u + 12, imax(vw, 3) + 4)"
        for end in range(3, len(level)):
            with self.assertRaises(InvalidLevel, msg=level[:end]):
                names_of(level[:end])
        for start in range(4, len(level) - 1):
            with self.assertRaises(InvalidLevel, msg=level[start:]):
                names_of(level[start:])

    def test_far_beyond_the_limits(self):
        deep = "u"
        for number in range(3000):
            deep = f"max({deep}, {number % 7}) + 1"
        self.assertEqual(names_of(deep), ("u",))
        self.assertEqual(value(deep, {"u": 5}), 3005)
        self.assertEqual(atoms(deep, []), (("u", 3000),))
        self.assertEqual(put_for("u + 1", {"u": deep}), deep + " + 1")
        self.assertTrue(never_above(deep, deep + " + 1"))
        self.assertFalse(never_above(deep + " + 1", deep))
        wide = f"max({', '.join([f'{a}{b}' for a in 'abcdefgh' for b in 'uvwxyz'])})"
        self.assertEqual(len(names_of(wide)), 48)
        self.assertTrue(alike(wide, f"max({wide}, {wide})"))
        self.assertTrue(never_above(f"imax({wide}, {wide})", wide))
        self.assertEqual(value("u + 9999", {"u": 10 ** 50}), 10 ** 50 + 9999)


class Values(unittest.TestCase):

    def test_names_are_a_lot(self):
        self.assertEqual(names_of("max(w, u, max(v, w) + 1, u)"), ("u", "v", "w"))
        self.assertEqual(names_of("imax(b, ab)"), ("ab", "b"))
        self.assertEqual(names_of("imax(1, 2) + 3"), ())

    def test_ordinary_values(self):
        numbers = {"u": 3, "v": 0, "w": 5}
        for level, result in (
            ("0", 0), ("9999", 9999), ("u", 3), ("u + 1", 4), ("u + 1 + 2", 6), ("1 + 2", 3),
            ("max(u, w)", 5), ("max(u, v, 4)", 4), ("max(u, w + 1, 2) + 1", 7), ("u + 0", 3),
        ):
            self.assertEqual(value(level, numbers), result, level)

    def test_imax(self):
        numbers = {"u": 3, "v": 0, "w": 5}
        for level, result in (
            ("imax(u, v)", 0), ("imax(v, u)", 3), ("imax(u, w)", 5), ("imax(w, u)", 5),
            ("imax(w, v + 1)", 5), ("imax(u, v) + 1", 1), ("imax(imax(u, v) + 4, w)", 5),
            ("imax(u, imax(w, v))", 0), ("imax(u, max(v, 0))", 0), ("imax(u, max(v, 1))", 3),
            ("imax(0, 0)", 0), ("imax(2, 1)", 2),
        ):
            self.assertEqual(value(level, numbers), result, level)

    def test_as_the_trees_say(self):
        for level in drawn(1, 200, "uv"):
            for numbers in all_numbers("uv", 2):
                self.assertEqual(value(text_of(level), numbers), worth_of(level, numbers))

    def test_no_name(self):
        for level, numbers, name in (
            ("max(w, v, u)", {"v": 1}, "u"), ("max(w, v, u)", {"u": 1, "x": 1}, "v"),
            ("imax(u, v)", {"v": 0}, "u"), ("imax(u, 0)", {}, "u"), ("max(b, ab)", {"a": 1}, "ab"),
        ):
            with self.assertRaises(NoName) as caught:
                value(level, numbers)
            self.assertEqual(caught.exception.name, name)

    def test_wrong_level_ahead_of_missing_name(self):
        with self.assertRaises(InvalidLevel):
            value("max(u)", {})

    def test_other_names_in_the_dict(self):
        self.assertEqual(value("u", {"u": 2, "v": 9}), 2)
        self.assertEqual(value("4", {"u": 2}), 4)


class Exchanges(unittest.TestCase):

    def test_texts(self):
        for level, others, result in (
            ("u", {}, "u"), ("u + 1", {"u": "v + 2"}, "v + 2 + 1"), ("u", {"u": "7"}, "7"),
            ("imax(u, v)", {"u": "v", "v": "u"}, "imax(v, u)"),
            ("max(u, v, u)", {"u": "imax(u, v)"}, "max(imax(u, v), v, imax(u, v))"),
            ("max(u, uu)", {"u": "a"}, "max(a, uu)"), ("max(maxi, m)", {"m": "a"}, "max(maxi, a)"),
            ("u + 1 + 2", {"u": "1"}, "1 + 1 + 2"), ("3 + 4", {"u": "1"}, "3 + 4"),
        ):
            self.assertEqual(put_for(level, others), result)

    def test_names_of_the_text_stay(self):
        self.assertEqual(put_for("max(u, v)", {"u": "max(v, w)", "v": "u", "w": "9"}), "max(max(v, w), u)")

    def test_other_keys_do_nothing(self):
        others = {"w": "9", "max": "8", "max(": "imax(", "1": "2", ", ": "; ", " + ": "3", "x": "no level"}
        self.assertEqual(put_for("max(u, v + 1)", others), "max(u, v + 1)")

    def test_wrong_texts(self):
        for text in WRONG + any_values():
            with self.assertRaises(InvalidLevel, msg=repr(text)[:60]):
                put_for("max(u, v)", {"u": "1", "v": text})

    def test_values_as_if_put_in(self):
        trees = drawn(2, 150, "uvw")
        for level, first, second in zip(trees[:50], trees[50:100], trees[100:]):
            others = {"u": text_of(first), "w": text_of(second)}
            result = put_for(text_of(level), others)
            self.assertEqual(result, text_of(put_in(level, {"u": first, "w": second})))
            for numbers in all_numbers("uvw", 2):
                inner = {"u": worth_of(first, numbers), "v": numbers["v"], "w": worth_of(second, numbers)}
                self.assertEqual(value(result, numbers), worth_of(level, inner))


class Atoms(unittest.TestCase):

    def test_ordinary(self):
        for level, zeros, result in (
            ("0", [], (("", 0),)), ("7", ["u"], (("", 7),)), ("u", [], (("u", 0),)),
            ("u", ["u"], (("", 0),)), ("u + 3", ("u",), (("", 3),)), ("u + 1 + 2", [], (("u", 3),)),
            ("max(v, u)", [], (("u", 0), ("v", 0))), ("max(u, u + 2, u + 1)", [], (("u", 2),)),
            ("max(u + 1, v + 5, w)", ["v"], (("", 5), ("u", 1), ("w", 0))),
            ("max(u, v)", ["v", "u", "x"], (("", 0),)), ("max(u, 4) + 2", [], (("", 6), ("u", 2))),
            ("max(b, ab, 9)", [], (("", 9), ("ab", 0), ("b", 0))),
        ):
            self.assertEqual(atoms(level, zeros), result, level)

    def test_number_only_if_it_can_be_greatest(self):
        for level, result in (
            ("max(u, 0)", (("u", 0),)), ("max(u, 1)", (("u", 0),)), ("max(u, 2)", (("", 2), ("u", 0))),
            ("max(u + 3, 4)", (("u", 3),)), ("max(u + 3, 5)", (("", 5), ("u", 3))),
            ("max(u, v + 3, 4)", (("u", 0), ("v", 3))),
            ("max(u, v + 3, 5)", (("", 5), ("u", 0), ("v", 3))), ("max(1, 3, 2)", (("", 3),)),
        ):
            self.assertEqual(atoms(level, []), result, level)

    def test_imax_is_decided(self):
        for level, zeros, result in (
            ("imax(u, v)", [], (("u", 0), ("v", 0))), ("imax(u, v)", ["v"], (("", 0),)),
            ("imax(u, v)", ["u"], (("v", 0),)), ("imax(u, v + 1)", ["v"], (("u", 0),)),
            ("imax(u + 3, v)", ["u"], (("", 3), ("v", 0))), ("imax(u, 0) + 2", [], (("", 2),)),
            ("imax(u, max(v, w))", ["v"], (("u", 0), ("w", 0))),
            ("imax(u, max(v, w))", ["v", "w"], (("", 0),)), ("imax(u, imax(w, v))", ["v"], (("", 0),)),
            ("imax(u, imax(w, v))", ["w"], (("u", 0), ("v", 0))), ("imax(u, u)", [], (("u", 0),)),
            ("imax(u, imax(v, 0) + 1)", [], (("u", 0),)),
        ):
            self.assertEqual(atoms(level, zeros), result, level)

    def check(self, level, zeros, points):
        """The atoms have the values of the level, and less of them have not."""
        found = atoms(text_of(level), zeros)
        self.assertIsInstance(found, tuple)
        self.assertEqual(list(found), sorted(set(found)))
        self.assertEqual(len(dict(found)), len(found))
        told = [worth_of(level, numbers) for numbers in points]
        for kept in [found, *itertools.combinations(found, len(found) - 1)]:
            values = [max([numbers.get(x, 0) + k for x, k in kept], default=-1) for numbers in points]
            self.assertEqual(values == told, kept == found, (text_of(level), zeros, kept))

    def test_as_few_as_possible(self):
        for level in drawn(3, 150, "uvw"):
            for size in range(4):
                for zeros in itertools.combinations("uvw", size):
                    points = [
                        numbers for numbers in all_numbers("uvw", 9)
                        if all([(numbers[name] == 0) == (name in zeros) for name in "uvw"])
                        and all([numbers[name] in (0, 1, 9) for name in "uvw"])
                    ]
                    self.check(level, list(zeros), points)


class Comparing(unittest.TestCase):

    def test_ordinary(self):
        for one, other, result in (
            ("u", "u", True), ("u", "u + 1", True), ("u + 1", "u", False), ("u", "v", False),
            ("u", "max(v, u)", True), ("max(u, v)", "u", False), ("max(u, v)", "max(v, u, w)", True),
            ("3", "u", False), ("3", "u + 3", True), ("4", "u + 3", False), ("0", "u", True),
            ("max(u, 1)", "u + 1", True), ("max(u, 2)", "u + 1", False), ("2", "3", True), ("3", "2", False),
            ("u + 9999", "9999", False), ("u", "9999", False), ("9999", "u + 9998", False),
        ):
            self.assertIs(never_above(one, other), result, (one, other))

    def test_imax(self):
        for one, other, result in (
            ("imax(u, v)", "max(u, v)", True), ("max(u, v)", "imax(u, v)", False),
            ("v", "imax(u, v)", True), ("u", "imax(u, v)", False), ("imax(u, v)", "v", False),
            ("imax(u, v)", "imax(u + 1, v)", True), ("imax(u + 1, v)", "imax(u, v) + 1", True),
            ("imax(u, v) + 1", "imax(u + 1, v + 1)", True), ("imax(u + 1, v + 1)", "imax(u, v) + 1", False),
            ("imax(1, u)", "u", True), ("imax(2, u)", "u", False), ("imax(2, u)", "max(u, 2)", True),
            ("imax(u, imax(v, w))", "imax(max(u, v), w)", True),
            ("imax(max(u, v), w)", "imax(u, imax(v, w))", True),
        ):
            self.assertIs(never_above(one, other), result, (one, other))

    def test_alike(self):
        for one, other, result in (
            ("u", "u", True), ("u + 1 + 2", "u + 3", True), ("max(u, v)", "max(v, u)", True),
            ("max(u, 1)", "u", False), ("max(u + 1, 1)", "u + 1", True), ("imax(1, u)", "u", True),
            ("imax(2, u)", "u", False), ("imax(u, 0)", "0", True), ("imax(u, 1)", "max(u, 1)", True),
            ("imax(0, u)", "u", True), ("imax(imax(u, v), w)", "imax(u, imax(v, w))", False),
            ("imax(u, max(v, w))", "max(imax(u, v), imax(u, w))", True),
            ("imax(u, max(v, w))", "max(imax(u, v), w)", False), ("1", "2", False), ("u", "v", False),
            ("imax(u, max(w, v + 0))", "max(imax(u, v), w)", False),
        ):
            self.assertIs(alike(one, other), result, (one, other))
            found = parting(one, other)
            self.assertEqual(found is None, result)
            if found is not None:
                self.check_parting(one, other, found)

    def check_parting(self, one, other, found):
        self.assertIsInstance(found, dict)
        self.assertEqual(sorted(found), sorted({*names_of(one), *names_of(other)}))
        for number in found.values():
            self.assertIs(type(number), int)
            self.assertGreaterEqual(number, 0)
        self.assertNotEqual(value(one, found), value(other, found))

    def test_parting_without_names(self):
        self.assertEqual(parting("1", "2"), {})
        self.assertIsNone(parting("3", "1 + 2"))
        self.assertEqual(list(parting("1", "u")), ["u"])

    def check_pair(self, one, other, points):
        pairs = [(worth_of(one, numbers), worth_of(other, numbers)) for numbers in points]
        first, second = text_of(one), text_of(other)
        self.assertIs(never_above(first, second), all([a <= b for a, b in pairs]), (first, second))
        self.assertIs(never_above(second, first), all([b <= a for a, b in pairs]), (first, second))
        self.assertIs(alike(first, second), all([a == b for a, b in pairs]), (first, second))
        found = parting(first, second)
        self.assertEqual(found is None, alike(first, second))
        if found is not None:
            self.check_parting(first, second, found)

    def test_as_many_numbers_say(self):
        for seed, names, depth in ((4, "uv", 2), (5, "uv", 3), (7, "uvw", 3), (8, "uvw", 4), (9, "uvwx", 3)):
            chance = random.Random(seed)
            for one in drawn(seed, 300, names, depth):
                other = chance.choice((changed(chance, one, names), tree(chance, names, depth)))
                # Beyond the greatest number in an atom and 2 more, all goes on alike.
                most = max(top_of(one), top_of(other)) + 2
                if most <= 6:
                    self.check_pair(one, other, list(all_numbers(names, most)))

    def test_one_imax_hangs_on_several_names(self):
        for second in ("max(max(v, w), x)", "max(x, max(v, max(w, 0)))", "max(max(v + 0, imax(2, w)), 0, x)",
                       "max(max(imax(v, w), v), w, imax(w, x), x)", "max(imax(v, 0), max(v, w) + 0, x + 0)"):
            one, other = f"imax(u, {second})", f"max(imax(u, max(v, w)), {second})"
            self.assertIs(never_above(one, other), False, one)
            self.assertIs(never_above(other, one), True, one)
            self.assertIs(alike(one, other), False, one)
            self.assertEqual({name: min(number, 1) for name, number in parting(one, other).items()},
                             {"u": 1, "v": 0, "w": 0, "x": 1})

    def test_alike_exactly_if_all_atoms_are_the_same(self):
        lots = [zeros for size in range(3) for zeros in itertools.combinations("uv", size)]
        trees = drawn(6, 400, "uv", 2)
        texts = [text_of(level) for level in trees]
        for one, other in zip(texts[::2], texts[1::2]):
            same = [atoms(one, zeros) == atoms(other, zeros) for zeros in lots]
            self.assertIs(alike(one, other), all(same), (one, other))

    def test_five_names_and_twenty_parts(self):
        one = "imax(max(a + 99, b, imax(c, d)), imax(e, max(a, imax(b, c)))) + 1"
        other = "max(1, imax(imax(max(a + 99, b, imax(c, d)), e) + 1, max(a, imax(b, c))))"
        self.assertIs(alike(one, one), True)
        points = list(all_numbers("abcde", 2))
        told = [value(one, numbers) == value(other, numbers) for numbers in points]
        self.assertFalse(all(told))
        self.check_parting(one, other, parting(one, other))


class Calls(unittest.TestCase):

    def test_by_names(self):
        self.assertEqual(names_of(level="u"), ("u",))
        self.assertEqual(value(level="u", numbers={"u": 2}), 2)
        self.assertEqual(put_for(level="u", others={"u": "v"}), "v")
        self.assertEqual(atoms(level="u", zeros=["u"]), (("", 0),))
        self.assertIs(never_above(one="u", other="v"), False)
        self.assertIs(alike(one="u", other="u"), True)
        self.assertIsNone(parting(one="u", other="u"))

    def test_arguments_stay_as_they_are(self):
        numbers, others, zeros = {"u": 1, "v": 0, "x": 3}, {"u": "max(v, 2)", "x": "1"}, ["v", "u"]
        for _ in range(2):
            self.assertEqual(value("imax(u, v)", numbers), 0)
            self.assertEqual(put_for("imax(u, v)", others), "imax(max(v, 2), v)")
            self.assertEqual(atoms("imax(u + 1, v)", zeros), (("", 0),))
        self.assertEqual(numbers, {"u": 1, "v": 0, "x": 3})
        self.assertEqual(others, {"u": "max(v, 2)", "x": "1"})
        self.assertEqual(zeros, ["v", "u"])

    def test_a_changed_result_changes_nothing(self):
        found = parting("u", "v")
        kept = dict(found)
        found["u"] = 99
        self.assertEqual(parting("u", "v"), kept)


if __name__ == "__main__":
    unittest.main()
