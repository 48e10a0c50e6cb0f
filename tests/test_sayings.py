"""wheresay.sayings: points 2 and 3, and point 1 where it speaks of sayings."""

import unittest
from fractions import Fraction

from tests.helper import PARTS, box, comes_to, edges, many_places, others, share
from wheresay.errors import BadSaying
from wheresay.sayings import Alike, Amid, At, Beside, Saying

SIDES = ("right", "left", "below", "above")
WAYS = ("across", "down")
# Of its kind, but no name.
NO_NAMES = ("", "abcdefghi", "A", "aB", "a1", "1", "a b", " a", "a ", "a_b", "-", "a\n", "`", "{", "~", "a" * 5000)


def all_sayings():
    """A saying of each sort, part, side and way, with some numbers."""
    told = [At("a", part, number) for part in PARTS for number in (-1000, -1, 0, 1, 7, 1000)]
    told += [Beside("a", side, "b", by) for side in SIDES for by in (-1000, -2, 0, 1, 1000)]
    told += [Alike("a", part, "b", times) for part in PARTS for times in (1, 2, 9)]
    return told + [Amid("a", way, "b", "c") for way in WAYS]


class Names(unittest.TestCase):
    def test_each_sort_is_a_saying(self):
        for sort in (At, Beside, Alike, Amid):
            self.assertTrue(issubclass(sort, Saying))

    def test_names_as_they_are_handed_in(self):
        self.assertEqual(At("b", "left", 3).names(), ["b"])
        self.assertEqual(Beside("b", "right", "a", 3).names(), ["b", "a"])
        self.assertEqual(Alike("b", "wide", "a", 3).names(), ["b", "a"])
        self.assertEqual(Amid("c", "across", "b", "a").names(), ["c", "b", "a"])
        self.assertEqual(Amid("b", "down", "a", "c").names(), ["b", "a", "c"])

    def test_shortest_and_longest_names(self):
        for name in ("z", "abcdefgh", "ijklmnop", "qrstuvwx", "yz"):
            self.assertEqual(At(name, "top", 0).names(), [name])
            self.assertEqual(Amid("a", "down", name, "b").names(), ["a", name, "b"])

    def test_arguments_by_name(self):
        self.assertEqual(At(name="a", part="top", number=1).adds(), ({("a", "top"): 1}, 1))
        told = Beside(name="a", side="above", other="b", by=2)
        self.assertEqual(told.adds(), Beside("a", "above", "b", 2).adds())
        told = Alike(name="a", part="wide", other="b", times=2)
        self.assertEqual(told.adds(), Alike("a", "wide", "b", 2).adds())
        told = Amid(name="a", way="down", one="b", other="c")
        self.assertEqual(told.adds(), Amid("a", "down", "b", "c").adds())


class Sums(unittest.TestCase):
    def test_at(self):
        for part in PARTS:
            for number in (-1000, -3, 0, 5, 1000):
                self.assertEqual(At("a", part, number).adds(), ({("a", part): 1}, number))

    def test_right(self):
        parts = {("a", "left"): 1, ("b", "left"): -1, ("b", "wide"): -1}
        for by in (-1000, -2, 0, 3, 1000):
            self.assertEqual(Beside("a", "right", "b", by).adds(), (parts, by))

    def test_left(self):
        parts = {("a", "left"): 1, ("a", "wide"): 1, ("b", "left"): -1}
        for by in (-1000, -2, 0, 3, 1000):
            self.assertEqual(Beside("a", "left", "b", by).adds(), (parts, -by))

    def test_below(self):
        parts = {("a", "top"): 1, ("b", "top"): -1, ("b", "high"): -1}
        for by in (-1000, -2, 0, 3, 1000):
            self.assertEqual(Beside("a", "below", "b", by).adds(), (parts, by))

    def test_above(self):
        parts = {("a", "top"): 1, ("a", "high"): 1, ("b", "top"): -1}
        for by in (-1000, -2, 0, 3, 1000):
            self.assertEqual(Beside("a", "above", "b", by).adds(), (parts, -by))

    def test_by_left_out_is_0(self):
        for side in SIDES:
            self.assertEqual(Beside("a", side, "b").adds(), Beside("a", side, "b", 0).adds())
            self.assertEqual(Beside("a", side, "b").adds()[1], 0)

    def test_alike(self):
        for part in PARTS:
            for times in (1, 2, 9):
                parts = {("a", part): 1, ("b", part): -times}
                self.assertEqual(Alike("a", part, "b", times).adds(), (parts, 0))

    def test_times_left_out_is_1(self):
        for part in PARTS:
            self.assertEqual(Alike("a", part, "b").adds(), ({("a", part): 1, ("b", part): -1}, 0))

    def test_amid_across(self):
        parts = {
            ("a", "left"): 4, ("a", "wide"): 2, ("b", "left"): -2, ("b", "wide"): -1,
            ("c", "left"): -2, ("c", "wide"): -1,
        }
        self.assertEqual(Amid("a", "across", "b", "c").adds(), (parts, 0))

    def test_amid_down(self):
        parts = {
            ("a", "top"): 4, ("a", "high"): 2, ("b", "top"): -2, ("b", "high"): -1,
            ("c", "top"): -2, ("c", "high"): -1,
        }
        self.assertEqual(Amid("a", "down", "b", "c").adds(), (parts, 0))

    def test_kinds_of_what_is_told(self):
        for saying in all_sayings():
            adds = saying.adds()
            self.assertIs(adds.__class__, tuple)
            parts, number = adds
            self.assertIs(parts.__class__, dict)
            self.assertIs(number.__class__, int)
            for key, many in parts.items():
                self.assertIs(key.__class__, tuple)
                self.assertIn(key[0], saying.names())
                self.assertIn(key[1], PARTS)
                self.assertIs(many.__class__, int)
                self.assertNotEqual(many, 0)


class Keeps(unittest.TestCase):
    def test_at(self):
        places = {"a": box(3, -4, Fraction(5, 2), 0)}
        for part, number in (("left", 3), ("top", -4), ("high", 0)):
            self.assertIs(At("a", part, number).keeps(places), True)
            self.assertIs(At("a", part, number + 1).keeps(places), False)
            self.assertIs(At("a", part, number - 1).keeps(places), False)
        for number in (2, 3, 5):
            self.assertIs(At("a", "wide", number).keeps(places), False)

    def check_beside(self, places, side, by):
        self.assertIs(Beside("a", side, "b", by).keeps(places), True)
        self.assertIs(Beside("a", side, "b", by + 1).keeps(places), False)
        self.assertIs(Beside("a", side, "b", -by).keeps(places), False)
        self.assertIs(Beside("b", side, "a", by).keeps(places), False)

    def test_beside(self):
        # Each time b is 10 wide and 20 high, from 100 across and 200 down.
        whole = {"b": box(100, 200, 10, 20)}
        self.check_beside({"a": box(113, 0, 1, 2), **whole}, "right", 3)
        self.check_beside({"a": box(90, 0, 8, 2), **whole}, "left", 2)
        self.check_beside({"a": box(0, 224, 1, 2), **whole}, "below", 4)
        self.check_beside({"a": box(0, 190, 8, 5), **whole}, "above", 5)

    def test_beside_by_0(self):
        places = {"a": box(5, 5, 4, 7), "b": box(9, 12, 1, 1)}
        self.assertIs(Beside("a", "left", "b").keeps(places), True)
        self.assertIs(Beside("b", "right", "a").keeps(places), True)
        self.assertIs(Beside("a", "above", "b").keeps(places), True)
        self.assertIs(Beside("b", "below", "a").keeps(places), True)
        self.assertIs(Beside("a", "right", "b").keeps(places), False)
        self.assertIs(Beside("a", "below", "b").keeps(places), False)

    def test_shares_that_are_no_whole_numbers(self):
        third, half = Fraction(1, 3), Fraction(1, 2)
        places = {"a": box(third, -half, 2 * third, half), "b": box(2, 0, 6 * third, 1)}
        self.assertIs(Beside("a", "left", "b", 1).keeps(places), True)
        self.assertIs(Beside("a", "left", "b", 0).keeps(places), False)
        self.assertIs(Beside("a", "above", "b").keeps(places), True)
        self.assertIs(Alike("b", "wide", "a", 3).keeps(places), True)
        self.assertIs(Alike("b", "wide", "a", 2).keeps(places), False)
        self.assertIs(Alike("b", "high", "a", 2).keeps(places), True)
        self.assertIs(At("a", "left", 0).keeps(places), False)
        self.assertIs(At("a", "left", 1).keeps(places), False)
        # Unlike, but by far less than a number with a point can tell.
        near = (3 * 10 ** 40 + 1, 10 ** 40)
        self.assertIs(At("a", "top", 3).keeps({"a": (share(0), near, share(0), share(0))}), False)

    def test_amid(self):
        half = Fraction(1, 2)
        places = {"a": box(4, half, 3, 3), "b": box(0, 1, 2, 1), "c": box(5, 0, 4, 4), "d": box(5, 1, 3, 4)}
        # Middles across: a 5.5, b 1, c 7, d 6.5; down: a 2, b 1.5, c 2, d 3.
        self.assertIs(Amid("a", "across", "b", "c").keeps(places), False)
        self.assertIs(Amid("a", "down", "b", "c").keeps(places), False)
        self.assertIs(Amid("a", "across", "c", "d").keeps(places), False)
        places["e"] = box(1, half, 6, half * 5)
        # e is in the middle of b and c across (4), and of b and c down (1.75).
        self.assertIs(Amid("e", "across", "b", "c").keeps(places), True)
        self.assertIs(Amid("e", "across", "c", "b").keeps(places), True)
        self.assertIs(Amid("b", "across", "e", "c").keeps(places), False)
        self.assertIs(Amid("e", "down", "b", "c").keeps(places), True)
        self.assertIs(Amid("e", "down", "b", "d").keeps(places), False)

    def test_other_names_of_the_places_count_for_nothing(self):
        places = {"z": box(1, 1, 1, 1), "a": box(2, 2, 2, 2)}
        self.assertIs(At("a", "left", 2).keeps(places), True)
        self.assertIs(At("a", "left", 1).keeps(places), False)

    def check_meaning(self, saying, meaning):
        """The meaning is what stands ahead of `is` or `are` in point 2, and what stands behind."""
        kept = 0
        for places in many_places(["a", "b", "c"]):
            ahead, behind = meaning(*[edges(places, name) for name in "abc"])
            kept += ahead == behind
            self.assertIs(saying.keeps(places), ahead == behind)
            # The sum tells the very same, with the same sign and as often.
            adds = saying.adds()
            self.assertEqual(comes_to(adds, places) - adds[1], ahead - behind)
        return kept

    def test_keeps_and_adds_are_as_point_2_says(self):
        kept = 0
        for part in PARTS:
            for number in (-2, 0, 1):
                kept += self.check_meaning(At("a", part, number), lambda a, b, c: (a[part], number))
            for times in (1, 2, 9):
                kept += self.check_meaning(Alike("a", part, "b", times), lambda a, b, c: (a[part], times * b[part]))
        for by in (-2, 0, 1):
            kept += self.check_meaning(Beside("a", "right", "b", by), lambda a, b, c: (a["left"], b["right"] + by))
            kept += self.check_meaning(Beside("a", "left", "b", by), lambda a, b, c: (a["right"] + by, b["left"]))
            kept += self.check_meaning(Beside("a", "below", "b", by), lambda a, b, c: (a["top"], b["bottom"] + by))
            kept += self.check_meaning(Beside("a", "above", "b", by), lambda a, b, c: (a["bottom"] + by, b["top"]))
        kept += self.check_meaning(Amid("a", "across", "b", "c"), lambda a, b, c: (
            2 * (a["left"] + a["right"]), b["left"] + b["right"] + c["left"] + c["right"]))
        kept += self.check_meaning(Amid("a", "down", "b", "c"), lambda a, b, c: (
            2 * (a["top"] + a["bottom"]), b["top"] + b["bottom"] + c["top"] + c["bottom"]))
        self.assertGreater(kept, 100)


class Refused(unittest.TestCase):
    def refused(self, sort, *arguments):
        with self.subTest(sort.__name__, last=len(arguments)), self.assertRaises(BadSaying) as caught:
            sort(*arguments)
        self.assertIs(caught.exception.__class__, BadSaying)

    def wrong_names(self):
        return others(str) + list(NO_NAMES)

    def test_names_that_are_none(self):
        for wrong in self.wrong_names():
            self.refused(At, wrong, "left", 3)
            self.refused(Beside, wrong, "right", "b", 3)
            self.refused(Beside, "a", "right", wrong, 3)
            self.refused(Alike, wrong, "wide", "b", 2)
            self.refused(Alike, "a", "wide", wrong, 2)
            self.refused(Amid, wrong, "across", "b", "c")
            self.refused(Amid, "a", "across", wrong, "c")
            self.refused(Amid, "a", "across", "b", wrong)

    def test_parts_sides_and_ways_that_there_are_not(self):
        wrong = others(str) + ["", "a", "Right", "Top", "down ", "righ", "width", "bottom", "acrossdown", "t" * 5000]
        for word in wrong + ["right", "below", "above", "across", "down"]:
            self.refused(At, "a", word, 3)
            self.refused(Alike, "a", word, "b", 2)
        for word in wrong + ["top", "wide", "high", "across", "down"]:
            self.refused(Beside, "a", word, "b", 3)
        for word in wrong + ["left", "top", "wide", "high", "right", "below", "above"]:
            self.refused(Amid, "a", word, "b", "c")

    def test_numbers_that_are_none(self):
        for wrong in others(int):
            self.refused(At, "a", "left", wrong)
            self.refused(Beside, "a", "right", "b", wrong)
            self.refused(Alike, "a", "wide", "b", wrong)

    def test_numbers_beyond(self):
        for wrong in (-1001, 1001, 10 ** 5000, -10 ** 5000):
            self.refused(At, "a", "left", wrong)
            self.refused(Beside, "a", "right", "b", wrong)
        for wrong in (0, 10, -1, 10 ** 5000):
            self.refused(Alike, "a", "wide", "b", wrong)

    def test_names_that_are_not_unlike(self):
        for side in SIDES:
            self.refused(Beside, "a", side, "a", 3)
        for part in PARTS:
            self.refused(Alike, "a", part, "a", 2)
        for way in WAYS:
            self.refused(Amid, "a", way, "a", "b")
            self.refused(Amid, "a", way, "b", "a")
            self.refused(Amid, "b", way, "a", "a")
            self.refused(Amid, "a", way, "a", "a")


class Own(unittest.TestCase):
    def test_what_is_told_is_the_askers_own(self):
        for saying in all_sayings():
            names, adds = saying.names(), saying.adds()
            as_it_was = (list(names), dict(adds[0]), adds[1])
            names.append("x")
            names[0] = "y"
            adds[0][("x", "left")] = 5
            del adds[0][("a", list(adds[0])[0][1])]
            self.assertEqual((saying.names(), *saying.adds()), as_it_was)

    def test_keeps_changes_nothing(self):
        places = {"a": box(1, 2, 3, 4), "b": box(5, 6, 7, 8), "c": box(9, 10, 11, 12)}
        before = dict(places)
        for saying in all_sayings():
            adds = saying.adds()
            saying.keeps(places)
            self.assertEqual(saying.adds(), adds)
        self.assertEqual(places, before)
        self.assertEqual(list(places), ["a", "b", "c"])


if __name__ == "__main__":
    unittest.main()
