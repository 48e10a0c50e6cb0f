"""wheresay.lines, and what Led and Walled made by hand tell: points 8 and 9."""

import unittest
from random import Random

from tests.helper import HEADINGS, Agreeing, Map, others, spoil
from wheresay.answers import Led, Walled
from wheresay.errors import BadBlocks
from wheresay.lines import led

NEAR = {"a": (0, 0, 1, 1), "b": (2, 0, 1, 1)}
APART = {"a": (0, 0, 1, 1), "b": (4, 1, 1, 1)}
# Round a stand four walls, with one free point between; b is outside.
WALLS = {
    "a": (0, 0, 1, 1), "north": (-2, -3, 4, 1), "east": (3, -3, 1, 5), "south": (-1, 3, 5, 1), "west": (-3, -1, 1, 5),
    "b": (10, 10, 1, 1)}
# Here the walls stand side by side with a.
TIGHT = {
    "a": (0, 0, 1, 1), "north": (-1, -2, 2, 1), "east": (2, -2, 1, 3), "south": (0, 2, 3, 1), "west": (-2, 0, 1, 3),
    "b": (10, 10, 1, 1)}
INSIDE = sorted((x, y) for x in range(-1, 3) for y in range(-1, 3) if not (0 <= x <= 1 and 0 <= y <= 1))


def any_blocks(rng, most=5):
    """Some blocks, by chance of a seed."""
    blocks = {}
    held = set()
    for name in rng.sample("abcdef", rng.randint(2, 6)):
        while name not in blocks:
            left, top = rng.randint(-7, 7), rng.randint(-7, 7)
            wide, high = rng.randint(1, most), rng.randint(1, most)
            points = {(left + x, top + y) for x in range(wide + 1) for y in range(high + 1)}
            if not points & held:
                blocks[name] = (left, top, wide, high)
                held |= points
    return blocks


class Base(unittest.TestCase):
    def led(self, blocks, one, other, best=None):
        """There is a way, of so many bends and steps, and the heights show that none is better."""
        there = Map(blocks, one, other)
        told = led(blocks, one, other)
        self.assertIs(told.__class__, Led)
        self.assertIs(told.points.__class__, list)
        for point in told.points:
            self.assertEqual([kind.__class__ for kind in (point, *point)], [tuple, int, int])
        for triple, height in told.heights.items():
            self.assertEqual([kind.__class__ for kind in (triple, *triple)], [tuple, int, int, str])
            self.assertEqual([kind.__class__ for kind in (height, *height)], [tuple, int, int])
        least = there.best()
        self.assertIsNotNone(least)
        self.assertEqual(there.way(told.points), least)
        self.assertIn(best, (None, least))
        self.assertTrue(there.show(told.heights, least))
        self.assertIs(told.shows(blocks, one, other), True)
        return told

    def walled(self, blocks, one, other):
        there = Map(blocks, one, other)
        self.assertIsNone(there.best())
        told = led(blocks, one, other)
        self.assertIs(told.__class__, Walled)
        self.assertIs(told.points.__class__, list)
        for point in told.points:
            self.assertEqual([kind.__class__ for kind in (point, *point)], [tuple, int, int])
        self.assertTrue(there.walls(told.points))
        self.assertIs(told.shows(blocks, one, other), True)
        return told


class Ways(Base):
    def test_straight(self):
        for turned in (1, -1):
            self.led({"a": (0, 0, 2, 2), "b": (6 * turned, 0, 2, 2)}, "a", "b", (0, 4))
            self.led({"a": (0, 0, 2, 2), "b": (0, 6 * turned, 2, 2)}, "a", "b", (0, 4))
        told = self.led({"a": (0, 0, 2, 2), "b": (6, 2, 2, 2)}, "a", "b")
        self.assertEqual(told.points, [(2, 2), (3, 2), (4, 2), (5, 2), (6, 2)])
        told = self.led({"a": (0, 0, 2, 2), "b": (-2, 5, 2, 2)}, "a", "b")
        self.assertEqual(told.points, [(0, 2), (0, 3), (0, 4), (0, 5)])

    def test_one_bend(self):
        for across in (6, -6):
            for down in (6, -6):
                self.led({"a": (0, 0, 2, 2), "b": (across, down, 2, 2)}, "a", "b", (1, 8))

    def test_two_bends(self):
        self.led({"a": (0, 0, 2, 2), "b": (8, 0, 2, 2), "c": (4, 0, 1, 2)}, "a", "b", (2, 8))
        self.led({"a": (5, -1, 6, 2), "b": (-5, -4, 2, 2), "c": (1, -4, 3, 5)}, "a", "b", (2, 13))

    def test_three_bends(self):
        blocks = {"a": (3, 0, 1, 2), "b": (-3, 0, 1, 6), "c": (2, 3, 4, 3), "d": (-1, -2, 2, 5), "e": (3, -3, 4, 2)}
        self.led(blocks, "a", "b", (3, 11))
        self.led(blocks, "b", "a", (3, 11))

    def test_along_the_frame(self):
        # The wall reaches as far down as any block, and further up: one way leads along the frame.
        blocks = {"a": (0, 0, 1, 1), "b": (6, 0, 1, 1), "c": (3, -20, 1, 20), "d": (3, 1, 1, 8)}
        told = self.led(blocks, "a", "b", (2, 23))
        self.assertIn((3, 10), told.points)
        self.assertEqual(max(down for across, down in told.points), 10)
        # Without what is below, the frame ends 1 lower than the wall and a.
        told = self.led({"a": (0, 0, 1, 1), "b": (6, 0, 1, 1), "c": (3, -19, 1, 20)}, "a", "b", (2, 7))
        self.assertIn((3, 2), told.points)
        # Across, too, to the left and to the right.
        told = self.led({"a": (0, 0, 1, 1), "b": (0, 6, 1, 1), "c": (0, 3, 20, 1)}, "a", "b", (2, 7))
        self.assertIn((-1, 3), told.points)
        told = self.led({"a": (0, 0, 1, 1), "b": (0, 6, 1, 1), "c": (-19, 3, 20, 1)}, "a", "b", (2, 7))
        self.assertIn((2, 3), told.points)

    def test_blocks_side_by_side(self):
        for b, ways in (((2, 0, 1, 1), [[(1, 0), (2, 0)], [(1, 1), (2, 1)]]), ((2, 1, 1, 1), [[(1, 1), (2, 1)]]),
                        ((-2, -1, 1, 1), [[(0, 0), (-1, 0)]]), ((0, 2, 1, 1), [[(0, 1), (0, 2)], [(1, 1), (1, 2)]]),
                        ((1, -2, 1, 1), [[(1, 0), (1, -1)]])):
            told = self.led({"a": (0, 0, 1, 1), "b": b}, "a", "b", (0, 1))
            self.assertIn(told.points, ways)

    def test_blocks_at_a_corner(self):
        # No step leads slantwise.
        self.led({"a": (0, 0, 1, 1), "b": (2, 2, 1, 1)}, "a", "b", (1, 2))
        self.led({"a": (0, 0, 1, 1), "b": (-2, 2, 1, 1)}, "a", "b", (1, 2))

    def test_fewer_bends_go_ahead_of_fewer_steps(self):
        # With 2 bends 9 steps would do.
        self.led({"a": (2, -3, 1, 1), "b": (4, 3, 5, 4), "c": (2, 1, 5, 1)}, "a", "b", (1, 10))
        # With more bends 15 and 20 would do.
        self.led({"a": (4, -4, 3, 5), "b": (-2, 4, 1, 4), "c": (2, -4, 1, 2), "d": (-2, -1, 2, 4), "e": (0, 4, 4, 5)},
                 "a", "b", (2, 17))
        self.led({"a": (3, 4, 1, 2), "b": (-3, -5, 1, 1), "c": (0, -5, 5, 2), "d": (-3, 3, 4, 6), "e": (3, -1, 6, 4),
                  "f": (-5, -3, 4, 4)}, "a", "b", (3, 29))

    def test_of_as_many_bends_fewer_steps(self):
        # Round the one end of c it is shorter than round the other.
        told = self.led({"a": (0, 0, 2, 2), "b": (8, 0, 2, 2), "c": (4, -9, 1, 12)}, "a", "b", (2, 10))
        self.assertIn((4, 4), told.points)

    def test_in_either_turn(self):
        for blocks in (NEAR, APART, {"b": (2, 0, 1, 1), "a": (0, 0, 1, 1)}):
            there, back = self.led(blocks, "a", "b"), self.led(blocks, "b", "a")
            self.assertEqual(len(there.points), len(back.points))

    def test_blocks_at_the_bounds(self):
        blocks = {"a": (-30, -30, 1, 1), "b": (30, 30, 20, 20)}
        self.led(blocks, "a", "b", (1, 118))
        self.led(blocks, "b", "a", (1, 118))
        blocks = {"a": (-30, 30, 20, 20), "b": (30, -30, 1, 1), "c": (-30, -30, 20, 1), "d": (30, 30, 1, 20)}
        self.led(blocks, "a", "b", (2, 99))
        self.led(blocks, "c", "b", (0, 40))
        self.led(blocks, "b", "d", (0, 59))

    def test_names_of_each_length(self):
        self.led({"left": (0, 0, 1, 1), "abcdefgh": (5, 0, 1, 1)}, "left", "abcdefgh", (0, 4))

    def test_many_blocks(self):
        rng = Random("led")
        for _ in range(120):
            blocks = any_blocks(rng)
            one, other = rng.sample(list(blocks), 2)
            if Map(blocks, one, other).best() is None:
                self.walled(blocks, one, other)
            else:
                self.led(blocks, one, other)


class Found(unittest.TestCase):
    """Which way and which heights are told is free, but they stay the same: those that are found first."""

    def found(self, blocks, one, other):
        way, heights = Map(blocks, one, other).found()
        told = led(blocks, one, other)
        if way is None:
            self.assertIs(told.__class__, Walled)
            self.assertEqual(told.points, sorted({triple[:2] for triple in heights}))
        else:
            self.assertIs(told.__class__, Led)
            self.assertEqual(told.points, way)
            self.assertEqual(list(told.heights.items()), list(heights.items()))

    def test_ways(self):
        for blocks, way in (
                ({"a": (0, 0, 1, 1), "b": (6, 6, 1, 1)}, [(x, 1) for x in range(1, 7)] + [(6, y) for y in range(2, 7)]),
                ({"a": (0, 0, 3, 3), "b": (9, 8, 3, 3), "c": (4, 4, 3, 2)},
                 [(x, 3) for x in range(3, 10)] + [(9, y) for y in range(4, 9)]),
                ({"a": (0, 0, 1, 1), "b": (8, 0, 1, 1), "c": (4, 0, 1, 1)},
                 [(1, 0), (1, -1)] + [(x, -1) for x in range(2, 9)] + [(8, 0)]),
                (NEAR, [(1, 0), (2, 0)])):
            self.assertEqual(led(blocks, "a", "b").points, way)

    def test_few_blocks(self):
        for blocks in (NEAR, APART, WALLS, TIGHT):
            for one in blocks:
                for other in blocks:
                    if one != other:
                        self.found(blocks, one, other)

    def test_many_blocks(self):
        rng = Random("found")
        for most in (1, 3, 5):
            for _ in range(60):
                blocks = any_blocks(rng, most)
                self.found(blocks, *rng.sample(list(blocks), 2))

    def test_blocks_at_the_bounds(self):
        blocks = {"a": (-30, -30, 1, 1), "b": (30, 30, 20, 20)}
        self.found(blocks, "a", "b")
        self.found(blocks, "b", "a")


class NoWay(Base):
    def test_walled(self):
        self.assertEqual(self.walled(WALLS, "a", "b").points, INSIDE)
        told = self.walled(WALLS, "b", "a").points
        self.assertNotIn((0, -1), told)
        self.assertIn((-4, -4), told)

    def test_walls_side_by_side_with_it(self):
        self.assertEqual(self.walled(TIGHT, "a", "b").points, [])
        self.walled(TIGHT, "b", "a")

    def test_walls_themselves_can_be_reached(self):
        for name in ("north", "east", "south", "west"):
            self.led(WALLS, "a", name)
            self.led(WALLS, name, "b")
            self.led(TIGHT, "a", name, (0, 1))

    def test_the_same_with_a_gap(self):
        self.led({**WALLS, "west": (-3, 0, 1, 4)}, "a", "b")
        self.led({**WALLS, "north": (-2, -3, 3, 1)}, "a", "b")
        self.led({**TIGHT, "south": (1, 2, 2, 1)}, "a", "b")
        self.led({**TIGHT, "south": (1, 2, 2, 1)}, "b", "a")
        self.led({name: block for name, block in WALLS.items() if name != "east"}, "a", "b")


class Refused(unittest.TestCase):
    def refused(self, blocks, one="a", other="b"):
        with self.assertRaises(BadBlocks) as caught:
            led(blocks, one, other)
        self.assertIs(caught.exception.__class__, BadBlocks)

    def test_blocks_that_are_no_dict(self):
        for wrong in others() + [list(NEAR.items()), list(NEAR), tuple(NEAR), set(NEAR), "ab"]:
            self.refused(wrong)

    def test_too_few_and_too_many_blocks(self):
        self.refused({})
        self.refused({"a": (0, 0, 1, 1)})
        self.refused({"a": (0, 0, 1, 1)}, "a", "a")
        seven = {name: (4 * at, 0, 1, 1) for at, name in enumerate("abcdefg")}
        self.refused(seven)
        del seven["g"]
        self.assertIs(led(seven, "a", "b").__class__, Led)

    def test_names_that_are_none(self):
        for wrong in ("", "A", "abcdefghi", "a b", "a1", "c ", 3, None, True, ("a",), b"a", 10 ** 5000):
            self.refused({**NEAR, wrong: (9, 9, 1, 1)})
            self.refused({"a": (0, 0, 1, 1), wrong: (9, 9, 1, 1)}, "a", wrong)

    def test_blocks_that_are_no_tuple_of_numbers(self):
        for wrong in others() + [[9, 9, 1, 1], (9, 9, 1), (9, 9, 1, 1, 1), (), ((9, 1), (9, 1), (1, 1), (1, 1)),
                                 "9911"]:
            self.refused({**NEAR, "c": wrong})
            self.refused({"a": (0, 0, 1, 1), "b": wrong})

    def test_parts_that_are_no_numbers(self):
        for at in range(4):
            for wrong in others(int) + [(1, 1), (9, 1)]:
                block = [9, 9, 1, 1]
                block[at] = wrong
                self.refused({**NEAR, "c": tuple(block)})

    def test_numbers_beyond_the_bounds(self):
        for at, least, most in ((0, -30, 30), (1, -30, 30), (2, 1, 20), (3, 1, 20)):
            for wrong in (least - 1, most + 1, -10 ** 5000, 10 ** 5000):
                block = [9, 9, 1, 1]
                block[at] = wrong
                self.refused({**NEAR, "c": tuple(block)})
            for right in (least, most):
                block = [9, 9, 1, 1]
                block[at] = right
                blocks = {"a": (0, -9, 1, 1), "b": (-4, -9, 1, 1), "c": tuple(block)}
                self.assertIs(led(blocks, "a", "b").__class__, Led)
        self.refused({**NEAR, "c": (9, 9, 0, 1)})
        self.refused({**NEAR, "c": (9, 9, 1, 0)})

    def test_blocks_with_a_point_together(self):
        a = (0, 0, 3, 3)
        for b in ((0, 0, 3, 3), (3, 0, 3, 3), (0, 3, 3, 3), (3, 3, 1, 1), (-2, -2, 2, 2), (-2, 3, 2, 2), (1, 1, 1, 1),
                  (-5, 1, 20, 1), (1, -5, 1, 20)):
            self.refused({"a": a, "b": b})
            self.refused({"a": b, "b": a})
            self.refused({"c": (20, 20, 1, 1), "d": (-20, 20, 1, 1), "a": a, "b": b}, "c", "d")
        for b in ((4, 0, 3, 3), (0, 4, 3, 3), (4, 4, 1, 1), (-3, -3, 2, 2), (-3, 4, 2, 2), (-5, 4, 20, 1)):
            self.assertIs(led({"a": a, "b": b}, "a", "b").__class__, Led)

    def test_names_that_are_no_two_of_the_blocks(self):
        for wrong in others(str) + ["c", "", "A", "a ", "abcdefghi", "a" * 5000]:
            self.refused(NEAR, wrong, "b")
            self.refused(NEAR, "a", wrong)
        self.refused(NEAR, "a", "a")
        self.refused(NEAR, "b", "b")


class OfLed(Base):
    def yes(self, points, heights, blocks=APART, one="a", other="b"):
        self.assertIs(Led(points, heights).shows(blocks, one, other), True)

    def no(self, points, heights, blocks=APART, one="a", other="b"):
        self.assertIs(Led(points, heights).shows(blocks, one, other), False)

    def setUp(self):
        self.heights = Map(APART, "a", "b").heights()
        self.points = [(1, 1), (2, 1), (3, 1), (4, 1)]

    def test_the_least_heights(self):
        self.yes(self.points, self.heights)
        self.yes(self.points, dict(reversed(list(self.heights.items()))))

    def test_ways_that_are_none(self):
        for wrong in (
                [], [(1, 1)], self.points[1:], self.points[:-1], [(1, 1), (3, 1), (4, 1)], [(1, 1), (2, 1), (4, 1)],
                [(1, 1), (2, 1), (2, 1), (3, 1), (4, 1)], self.points[::-1], self.points + [(5, 1)],
                [(0, 1)] + self.points, [(1, 0)] + self.points, [(1, 1), (4, 1)], [(1, 1), (2, 2), (3, 1), (4, 1)],
                [(1, 1), (2, 1), (3, 1), (3, 2)], [(2, 1), (3, 1), (4, 1)], [(1, 2), (2, 2), (3, 2), (4, 2)],
                [(4, 1), (3, 1), (2, 1), (1, 1)], [(9, 9)] * 4, [(1, 1), (1, 1), (2, 1), (3, 1)]):
            self.no(wrong, self.heights)

    def test_ways_that_are_not_best(self):
        # There and back again, or with bends.
        for wrong in (
                [(1, 1), (2, 1), (3, 1), (2, 1), (3, 1), (4, 1)], [(1, 1), (2, 1), (2, 2), (3, 2), (4, 2)],
                [(1, 0), (2, 0), (3, 0), (3, 1), (4, 1)], [(1, 0), (2, 0), (2, 1), (3, 1), (4, 1)]):
            self.assertIsNotNone(Map(APART, "a", "b").way(wrong))
            self.no(wrong, self.heights)

    def test_ways_through_other_blocks(self):
        blocks = {"a": (0, 0, 1, 1), "b": (6, 0, 1, 1), "c": (3, 0, 1, 1)}
        heights = Map(blocks, "a", "b").heights()
        self.yes([(1, 0), (1, -1)] + [(x, -1) for x in range(2, 7)] + [(6, 0)], heights, blocks)
        self.no([(x, 0) for x in range(1, 7)], heights, blocks)
        self.no([(x, 0) for x in range(1, 7)], {triple: (0, 5) for triple in heights}, blocks)

    def counted(self, points):
        """The bends and steps of points, as if they were a way."""
        turns = [(b[0] - a[0], b[1] - a[1]) for a, b in zip(points, points[1:])]
        return sum(a != b for a, b in zip(turns, turns[1:])), len(turns)

    def test_heights_show_no_way_that_is_none(self):
        # Heights that lie lower show each time that nothing could be better, so it is left to the points.
        corner = {"a": (0, 0, 1, 1), "b": (2, 5, 1, 1), "c": (2, 0, 1, 1)}
        between = {"a": (0, 0, 1, 2), "b": (4, 0, 1, 2), "c": (2, 0, 1, 2)}
        for blocks, one, other, right, wrongs in (
                (corner, "a", "b", [(1, 1), (1, 2), (1, 3), (1, 4), (1, 5), (2, 5)], [
                    # Only the second one is not free, in the way back only the last but one.
                    [(1, 1), (2, 1), (2, 2), (2, 3), (2, 4), (2, 5)],
                    [(1, 0), (2, 0), (2, 1), (2, 2), (2, 3), (2, 4), (2, 5)]]),
                (corner, "b", "a", [(2, 5), (1, 5), (1, 4), (1, 3), (1, 2), (1, 1)], [
                    [(2, 5), (2, 4), (2, 3), (2, 2), (2, 1), (1, 1)]]),
                (between, "a", "b", [(1, 0), (1, -1), (2, -1), (3, -1), (4, -1), (4, 0)], [
                    [(1, 0), (2, 0), (3, 0), (4, 0)], [(1, 0), (2, 0), (2, 1), (2, 2), (3, 2), (4, 2)]]),
                (APART, "a", "b", self.points, [
                    # Not to the other one, not from the one, and with steps that are none.
                    [(1, 0), (2, 0), (3, 0), (4, 0)], [(1, 2), (2, 2), (3, 2), (4, 2)], [(2, 1), (3, 1), (4, 1)],
                    [(1, 1), (2, 1), (3, 1)], [(1, 0), (2, 2), (3, -1), (4, 1)], [(1, 1), (1, 1), (1, 1), (4, 1)],
                    [(0, 1), (2, 1), (4, 1)], [(1, 1), (4, 1)], [(1, -1), (2, -1), (3, -1), (4, -1)]])):
            heights = Map(blocks, one, other).heights()
            self.yes(right, heights, blocks, one, other)
            for wrong in wrongs:
                low = {triple: min(height, self.counted(wrong)) for triple, height in heights.items()}
                self.no(wrong, low, blocks, one, other)

    def test_heights_show_no_way_where_there_is_none(self):
        # No way is asked of the heights in the other block, so they can tell what they will.
        for blocks in (WALLS, TIGHT):
            for wrong in (
                    [(1, y) for y in range(1, 11)] + [(x, 10) for x in range(2, 11)],
                    [(x, 1) for x in range(1, 11)] + [(10, y) for y in range(2, 11)], [(1, 1), (10, 10)],
                    [(0, 1), (-1, 2), (-2, 3), (10, 10)], [(1, 1)], [(10, 10)], []):
                heights = {**Map(blocks, "a", "b").heights(), (10, 10, "right"): self.counted(wrong)}
                self.no(wrong, heights, blocks)

    def test_ways_beyond_the_frame(self):
        blocks = {"a": (0, 0, 1, 1), "b": (4, 0, 1, 1), "c": (2, 0, 1, 1)}
        heights = Map(blocks, "a", "b").heights()
        self.yes([(1, 0), (1, -1), (2, -1), (3, -1), (4, -1), (4, 0)], heights, blocks)
        self.no([(1, 0), (1, -1), (1, -2), (2, -2), (3, -2), (4, -2), (4, -1), (4, 0)], heights, blocks)

    def test_what_is_no_list_of_points(self):
        for wrong in others() + [tuple(self.points), [list(point) for point in self.points], [(1, 1, 1)] * 4,
                                 [(1,)] * 4, [1, 2, 3, 4], [(1, 1), (2, 1), (3, 1), (4, True)], ["ab"] * 4,
                                 [(True, 1), (2, 1), (3, 1), (4, 1)], [(1, 1), (2, 1), None, (4, 1)]]:
            self.no(wrong, self.heights)

    def test_what_are_no_heights(self):
        for wrong in others() + [list(self.heights.items()), {}]:
            self.no(self.points, wrong)

    def test_each_height_left_out(self):
        for triple in self.heights:
            self.no(self.points, {one: height for one, height in self.heights.items() if one != triple})

    def test_each_height_left_out_of_level_ones(self):
        # Here a step leads at once to the other, and nothing else does, so all others may lie as low as they will.
        there = Map(TIGHT, "north", "a")
        for low in ((0, 1), (-9, 1), (-9, -9), (-10 ** 30, 0)):
            heights = {triple: (0, 1) if triple[:2] in there.other else low for triple in there.heights()}
            self.yes([(0, -1), (0, 0)], heights, TIGHT, "north", "a")
            for triple in heights:
                left = {one: height for one, height in heights.items() if one != triple}
                self.no([(0, -1), (0, 0)], left, TIGHT, "north", "a")

    def test_each_height_more_or_less(self):
        there = Map(APART, "a", "b")
        shown = 0
        for triple, (bends, steps) in self.heights.items():
            for height in ((bends, steps + 1), (bends + 1, steps), (bends + 1, 0)):
                self.no(self.points, {**self.heights, triple: height})
            for height in ((bends, steps - 1), (bends - 1, steps), (bends - 1, 999), (-999, 0), (bends, -999)):
                wanted = there.show({**self.heights, triple: height}, (0, 3))
                shown += wanted
                self.assertIs(Led(self.points, {**self.heights, triple: height}).shows(APART, "a", "b"), wanted)
        # Where nothing goes on from a triple, its height may be less.
        self.assertGreater(shown, 0)

    def test_the_least_height_in_the_other_must_be_that_of_the_way(self):
        ends = [triple for triple in self.heights if triple[:2] in Map(APART, "a", "b").other]
        self.no(self.points, {**self.heights, ends[0]: (0, 2)})
        self.no(self.points, {**self.heights, ends[0]: (-1, 3)})
        # These are heights of points in the other, too, though no step leads to them.
        self.yes(self.points, {**self.heights, (5, 2, "right"): (0, 3)})
        self.yes(self.points, {**self.heights, (5, 2, "right"): (9, 9)})
        self.no(self.points, {**self.heights, (5, 2, "right"): (0, 2)})
        # All of them less, or all more: then the way is not what they show.
        self.no(self.points, {triple: (0, 1) for triple in self.heights})
        self.no(self.points, {triple: (bends, steps + 1) for triple, (bends, steps) in self.heights.items()})

    def test_heights_that_lie_lower(self):
        ends = Map(APART, "a", "b").other
        low = {triple: (0, min(steps, 3)) if not bends else (0, 3) for triple, (bends, steps) in self.heights.items()}
        self.assertTrue(Map(APART, "a", "b").show(low, (0, 3)))
        self.yes(self.points, low)
        lower = {triple: height if triple[:2] in ends else (height[0], height[1] - 5)
                 for triple, height in self.heights.items()}
        self.no(self.points, lower)
        near = {triple: (0, 1) for triple in Map(NEAR, "a", "b").heights()}
        self.yes([(1, 0), (2, 0)], near, NEAR)
        self.yes([(1, 1), (2, 1)], near, NEAR)
        self.no([(1, 0), (2, 0)], {**near, (2, 0, "right"): (0, 2)}, NEAR)
        self.no([(1, 0), (2, 0)], {**near, (2, 0, "right"): (0, 0)}, NEAR)
        self.no([(1, -1), (2, -1)], near, NEAR)

    def test_the_first_heights(self):
        first = [triple for triple in self.heights if triple in Map(APART, "a", "b").firsts()]
        self.assertGreater(len(first), 4)
        for triple in first:
            self.no(self.points, {**self.heights, triple: (0, 2)})
            self.no(self.points, {**self.heights, triple: (1, 0)})

    def test_bends_count_in_heights(self):
        # Each bend for free: the heights lie lower, and are fine, but show less.
        diagonal = {"a": (0, 0, 1, 1), "b": (4, 4, 1, 1)}
        way = [(1, 1), (2, 1), (3, 1), (4, 1), (4, 2), (4, 3), (4, 4)]
        heights = Map(diagonal, "a", "b").heights()
        self.yes(way, heights, diagonal)
        self.no(way, {triple: (0, steps) for triple, (bends, steps) in heights.items()}, diagonal)
        # A bend that costs more than 1 is too much.
        self.no(way, {triple: (2 * bends, steps) for triple, (bends, steps) in heights.items()}, diagonal)
        self.no(way, {triple: (bends, 2 * steps - 1) for triple, (bends, steps) in heights.items()}, diagonal)

    def test_heights_of_other_triples_count_for_nothing(self):
        inside = {(0, 0, "right"): (-9, -9), (1, 1, "up"): None}
        outside = {(99, 99, "up"): (0, 0), (-3, 0, "left"): "none", (2, 9, "down"): (-1, 0)}
        headings = {(2, 1, "north"): (-9, 0), (2, 1, "Right"): 3, (2, 1, ""): (0, 0), (4, 1, "east"): (-9, 0),
                    (4, 1, None): (0, 0), (4, 1, 0): (0, 0)}
        no_triples = {(2, 1): (-9, 0), (4, 1): (-9, 0), (4, 1, "up", 1): (-9, 0), "up": (0, 0), 3: (0, 0),
                      None: (0, 0), (): (0, 0), ("4", 1, "up"): (0, 0), ((4, 1), "up"): (0, 0)}
        for more in (inside, outside, headings, no_triples):
            self.yes(self.points, {**self.heights, **more})
            self.yes(self.points, {**more, **self.heights})
            for triple, height in more.items():
                self.yes(self.points, {**self.heights, triple: height})
        # So also the heights of a third block.
        blocks = {**APART, "c": (-5, -5, 1, 1)}
        heights = Map(blocks, "a", "b").heights()
        self.yes(self.points, {**heights, (-5, -5, "right"): (-9, -9), (-4, -4, "up"): (-9, 9)}, blocks)

    def test_heights_beyond_the_frame_count_for_nothing(self):
        # However far off a point is, it is none of those in the frame.
        outside = [(x, y) for x in range(-25, 35) for y in range(-25, 35) if not (-1 <= x <= 6 and -1 <= y <= 3)]
        more = {(x, y, heading): (-9, -9) for x, y in outside for heading in HEADINGS}
        self.yes(self.points, {**self.heights, **more})
        self.yes(self.points, {**more, **self.heights})
        for far in (10 ** 30, -10 ** 30):
            for triple in ((far, 1, "right"), (4, far, "down"), (far, far, "up")):
                self.yes(self.points, {**self.heights, triple: (-9, -9)})

    def test_triples_that_are_none_but_are_found_so(self):
        # In a dict True is found as 1 is, but such triples are none, and those with the number aren't told then.
        tried = 0
        for (x, y, heading), height in self.heights.items():
            wrongs = [(True, y, heading)] * (x == 1) + [(x, True, heading)] * (y == 1)
            for wrong in wrongs + [(x, y, Agreeing())] * (heading == "left"):
                heights = {triple: height for triple, height in self.heights.items() if triple != (x, y, heading)}
                self.no(self.points, {**heights, wrong: height})
                self.yes(self.points, {**heights, (x, y, heading): height})
                tried += 1
        self.assertGreater(tried, 40)

    def test_heights_of_free_points_count_though_no_way_leads_there(self):
        # From beyond the frame no step leads to the right.
        self.assertNotIn((-1, 0, "right"), self.heights)
        self.no(self.points, {**self.heights, (-1, 0, "right"): (-9, 0)})
        self.yes(self.points, {**self.heights, (-1, 0, "right"): (9, 0)})

    def test_straight_back_needs_no_height(self):
        # Between three walls leads a way to the right; none leads out but straight back.
        blocks = {
            "a": (0, 0, 1, 1), "b": (0, 6, 1, 1), "above": (4, -3, 3, 1), "below": (4, 0, 3, 1),
            "behind": (8, -3, 1, 4)}
        there = Map(blocks, "a", "b")
        way, heights, more = led(blocks, "a", "b").points, there.heights(), there.heights(True)
        self.assertIn((5, -1, "right"), heights)
        self.assertNotIn((5, -1, "left"), heights)
        self.assertIn((5, -1, "left"), more)
        self.yes(way, heights, blocks)
        self.yes(way, more, blocks)
        # But if there is such a height, the next one must be there, too, and no more than it lets it be.
        self.no(way, {**heights, (5, -1, "left"): (9, 9)}, blocks)
        del more[4, -1, "left"]
        self.no(way, more, blocks)

    def test_heights_that_are_no_pairs_of_numbers(self):
        for triple in ((2, 1, "right"), (4, 1, "right"), (3, 1, "right"), (2, 0, "up")):
            bends, steps = self.heights[triple]
            for wrong in ([bends, steps], (bends,), (bends, steps, 0), None, 0, "ab", (bends, None),
                          (str(bends), steps), (False, steps), (bends, True), True, (), ((bends, steps),)):
                self.no(self.points, {**self.heights, triple: wrong})
        self.no(self.points, {**self.heights, (-1, 0, "right"): None})

    def test_changed_heights_of_many_blocks(self):
        rng = Random("heights")
        shown = 0
        for _ in range(40):
            blocks = any_blocks(rng, 3)
            one, other = rng.sample(list(blocks), 2)
            there = Map(blocks, one, other)
            if there.best() is None:
                continue
            told = led(blocks, one, other)
            for _ in range(15):
                heights = dict(told.heights)
                x, y, heading = rng.choice(list(heights))
                bends, steps = heights[x, y, heading]
                if rng.random() < 0.5:
                    heights[x, y, heading] = (bends + rng.randint(-1, 1), steps + rng.randint(-1, 1))
                else:
                    triple = (x + rng.randint(-1, 1), y + rng.randint(-1, 1), rng.choice(list(HEADINGS)))
                    heights[triple] = (bends + rng.randint(-1, 1), steps + rng.randint(-2, 2))
                wanted = there.show(heights, there.best())
                shown += wanted
                self.assertIs(Led(told.points, heights).shows(blocks, one, other), wanted)
        self.assertGreater(shown, 20)

    def test_other_blocks(self):
        told = led(APART, "a", "b")
        self.assertIs(told.shows(APART, "b", "a"), False)
        self.assertIs(told.shows({**APART, "b": (5, 1, 1, 1)}, "a", "b"), False)
        self.assertIs(told.shows({**APART, "b": (3, 1, 1, 1)}, "a", "b"), False)
        self.assertIs(told.shows({**APART, "c": (9, 9, 1, 1)}, "a", "b"), False)
        self.assertIs(told.shows({**APART, "c": (9, 9, 1, 1)}, "a", "c"), False)
        self.assertIs(told.shows(dict(reversed(list(APART.items()))), "a", "b"), True)
        self.assertIs(told.shows(WALLS, "a", "b"), False)

    def test_where_there_is_no_way(self):
        heights = Map(WALLS, "a", "b").heights()
        self.no([(1, 1)] + [(2, y) for y in range(1, 11)] + [(x, 10) for x in range(3, 11)], heights, WALLS)
        self.no([], heights, WALLS)

    def test_the_fields_as_they_stand(self):
        told = led(APART, "a", "b")
        told.points.reverse()
        self.assertIs(told.shows(APART, "a", "b"), False)
        told.points = [(1, 1), (2, 1), (3, 1), (4, 1)]
        self.assertIs(told.shows(APART, "a", "b"), True)
        height = told.heights.pop((2, 1, "right"))
        self.assertIs(told.shows(APART, "a", "b"), False)
        told.heights[2, 1, "right"] = height
        self.assertIs(told.shows(APART, "a", "b"), True)


class OfWalled(unittest.TestCase):
    def yes(self, points, blocks=WALLS, one="a", other="b"):
        self.assertIs(Walled(points).shows(blocks, one, other), True)

    def no(self, points, blocks=WALLS, one="a", other="b"):
        self.assertIs(Walled(points).shows(blocks, one, other), False)

    def test_points_that_show_it(self):
        self.yes(INSIDE)
        self.yes([], TIGHT)

    def test_each_point_left_out(self):
        for out in INSIDE:
            self.no([point for point in INSIDE if point != out])
        self.no([])

    def test_points_put_twice(self):
        for at, point in enumerate(INSIDE):
            self.no(INSIDE[:at] + [point] + INSIDE[at:])

    def test_points_out_of_turn(self):
        self.no(INSIDE[::-1])
        self.no(INSIDE[1:] + INSIDE[:1])
        self.no(sorted(INSIDE, key=lambda point: (point[1], point[0])))

    def test_points_that_are_not_free(self):
        for wrong in ((0, 0), (-2, -2), (3, 0), (10, 10), (-5, 0), (99, 99)):
            self.no(sorted(INSIDE + [wrong]))
        self.no([(0, 0)], TIGHT)
        self.no([(99, 99)], TIGHT)

    def test_points_beyond_the_frame(self):
        for x in range(-25, 35):
            for y in range(-25, 35):
                if not (-4 <= x <= 12 and -4 <= y <= 12):
                    self.no(sorted(INSIDE + [(x, y)]))
                    self.no([(x, y)], TIGHT)
        for far in (10 ** 30, -10 ** 30):
            self.no(sorted(INSIDE + [(far, 0)]))
            self.no(sorted(INSIDE + [(0, far)]))

    def test_changed_points(self):
        rng = Random("points")
        free = sorted(Map(WALLS, "a", "b").free)
        outside = [point for point in free if point not in INSIDE]
        shown = 0
        for _ in range(300):
            one, other, points = rng.choice([
                ("a", "b", INSIDE), ("b", "a", outside), ("a", "b", outside), ("b", "a", free), ("a", "north", INSIDE)])
            for _ in range(rng.randint(0, 2)):
                points = sorted(set(points) ^ {rng.choice(INSIDE), rng.choice(outside)})
            if rng.random() < 0.2:
                points = rng.sample(points, len(points))
            wanted = Map(WALLS, one, other).walls(points)
            shown += wanted
            self.assertIs(Walled(points).shows(WALLS, one, other), wanted)
        self.assertGreater(shown, 20)

    def test_points_from_which_steps_lead_on(self):
        # Free, but outside of the walls: then all there must be told.
        self.no(sorted(INSIDE + [(-4, -4)]))
        self.no([(-3, -3)], TIGHT)

    def test_the_one_side_and_the_other(self):
        free = sorted(Map(WALLS, "a", "b").free)
        outside = [point for point in free if point not in INSIDE]
        self.yes(outside, WALLS, "b", "a")
        self.no(outside)
        self.no(INSIDE, WALLS, "b", "a")
        # All free points: no step leads on from them, but some lead to the other.
        self.no(free)
        self.no(free, WALLS, "b", "a")

    def test_where_there_is_a_way(self):
        for blocks in (NEAR, APART):
            self.no(sorted(Map(blocks, "a", "b").free), blocks)
            self.no([], blocks)
        self.no(INSIDE, {**WALLS, "west": (-3, 0, 1, 4)})

    def test_a_step_from_the_one_to_the_other(self):
        # Side by side, and walled but for that.
        self.no([], TIGHT, "a", "north")
        self.no(INSIDE, WALLS, "a", "north")

    def test_what_is_no_list_of_points(self):
        for wrong in others(list) + [tuple(INSIDE), set(INSIDE), dict.fromkeys(INSIDE), [list(one) for one in INSIDE],
                                     [(x, y, 0) for x, y in INSIDE], ["ab"], [None], [3], [(1,)], ["a", (0, -1)]]:
            self.no(wrong)
        self.no([(x, y if y != 1 else True) for x, y in INSIDE])
        self.no([(x if x != 1 else True, y) for x, y in INSIDE])

    def test_other_blocks(self):
        told = led(WALLS, "a", "b")
        self.assertIs(told.shows(TIGHT, "a", "b"), False)
        self.assertIs(told.shows({**WALLS, "b": (20, 20, 1, 1)}, "a", "b"), True)
        self.assertIs(told.shows(APART, "a", "b"), False)

    def test_the_field_as_it_stands(self):
        told = led(WALLS, "a", "b")
        told.points.append((-4, -4))
        self.assertIs(told.shows(WALLS, "a", "b"), False)
        told.points = list(INSIDE)
        self.assertIs(told.shows(WALLS, "a", "b"), True)


class OfNoBlocks(unittest.TestCase):
    def test_what_are_no_blocks_show_nothing(self):
        way, walls = led(APART, "a", "b"), led(WALLS, "a", "b")
        for wrong in others() + [{}, {"a": (0, 0, 1, 1)}, {**APART, "c": (0, 0, 1, 1)}, {**APART, "c": [9, 9, 1, 1]}]:
            self.assertIs(way.shows(wrong, "a", "b"), False)
            self.assertIs(walls.shows(wrong, "a", "b"), False)
        for wrong in others(str) + ["d", "", "A"]:
            for answer, blocks in ((way, APART), (walls, WALLS)):
                self.assertIs(answer.shows(blocks, wrong, "b"), False)
                self.assertIs(answer.shows(blocks, "a", wrong), False)
        for answer, blocks in ((way, APART), (walls, WALLS)):
            self.assertIs(answer.shows(blocks, "a", "a"), False)


class Own(unittest.TestCase):
    def test_what_is_told_is_new(self):
        for blocks in (NEAR, APART, WALLS):
            before = dict(vars(led(blocks, "a", "b")))
            spoil(list(vars(led(blocks, "a", "b")).values()))
            self.assertEqual(vars(led(blocks, "a", "b")), before)

    def test_blocks_stay_as_they_are(self):
        for blocks in (NEAR, APART, WALLS):
            before = list(blocks.items())
            answer = led(blocks, "a", "b")
            answer.shows(blocks, "a", "b")
            self.assertEqual(list(blocks.items()), before)

    def test_blocks_are_not_kept(self):
        blocks = dict(APART)
        answer = led(blocks, "a", "b")
        before = str(vars(answer))
        blocks.clear()
        self.assertEqual(str(vars(answer)), before)
        self.assertIs(answer.shows(APART, "a", "b"), True)

    def test_arguments_by_name(self):
        self.assertIs(led(blocks=NEAR, one="a", other="b").__class__, Led)
        told = led(NEAR, "a", "b")
        self.assertIs(told.shows(blocks=NEAR, one="a", other="b"), True)


if __name__ == "__main__":
    unittest.main()
