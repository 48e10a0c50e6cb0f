"""wheresay.settling: points 4 to 7, and point 1 where it speaks of them."""

import unittest
from fractions import Fraction
from random import Random

from tests.helper import (
    PARTS, any_saying, any_sheets, box, can_be_kept, is_least_lot, numbers_of, others, rest_places, share, spoil,
    together)
from wheresay.answers import Breaks, Clash, Follows, Kept, Known, Loose
from wheresay.errors import BadPart, BadSaying, BadSheet, Clashing, Unlike
from wheresay.sayings import Alike, Amid, At, Beside, Saying
from wheresay.settling import drawn, follows, known, moved
from wheresay.sheets import Sheet, put, taken

HALF = Fraction(1, 2)
AS_IT_IS = box(0, 0, 8, 4)


def clashing():
    """A sheet of a and b that can't be kept: of the last three, and of no others."""
    return Sheet(["a", "b"], [
        At("a", "top", 1), At("a", "left", 3), Beside("b", "left", "a", 2), At("b", "left", 9), At("b", "wide", 7)])


class Keeping(unittest.TestCase):
    def kept(self, names, sayings, **wanted):
        """The places of the boxes that are told are as wanted, all others stay as they are by the rest rule."""
        sheet = Sheet(names, sayings)
        told = drawn(sheet)
        self.assertIs(told.__class__, Kept)
        self.assertEqual(told.places, {name: wanted.get(name, AS_IT_IS) for name in names})
        self.assertEqual(list(told.places), names)
        self.assertIs(told.shows(sheet), True)
        self.assertTrue(all(saying.keeps(told.places) for saying in sayings))

    def test_nothing_is_said(self):
        self.kept(["a"], [])
        self.kept(["f", "b", "abcdefgh", "a", "left", "box"], [])

    def test_one_box(self):
        self.kept(["a"], [At("a", "left", -1000)], a=box(-1000, 0, 8, 4))
        self.kept(["a"], [At("a", "top", 1000)], a=box(0, 1000, 8, 4))
        self.kept(["a"], [At("a", "wide", 0)], a=box(0, 0, 0, 4))
        self.kept(["a"], [At("a", "high", -5), At("a", "wide", 3)], a=box(0, 0, 3, -5))
        self.kept(["a"], [At("a", "left", 2), At("a", "left", 2)], a=box(2, 0, 8, 4))

    def test_two_boxes_beside_each_other(self):
        self.kept(["a", "b"], [Beside("b", "right", "a", 2)], b=box(10, 0, 8, 4))
        self.kept(["b", "a"], [Beside("b", "right", "a", 2)], a=box(-10, 0, 8, 4))
        self.kept(["a", "b"], [Beside("b", "left", "a", 2)], b=box(-10, 0, 8, 4))
        self.kept(["a", "b"], [Beside("b", "below", "a")], b=box(0, 4, 8, 4))
        self.kept(["a", "b"], [Beside("b", "above", "a", -1)], b=box(0, -3, 8, 4))

    def test_boxes_settle_in_their_turn(self):
        self.kept(["a", "b"], [Alike("a", "wide", "b", 2)], b=box(0, 0, 4, 4))
        self.kept(["b", "a"], [Alike("a", "wide", "b", 2)], a=box(0, 0, 16, 4))
        self.kept(["a", "b"], [Alike("a", "high", "b", 3)], b=box(0, 0, 8, Fraction(4, 3)))

    def test_wide_settles_ahead_of_left_and_high_ahead_of_top(self):
        ends = [Beside("a", "left", "b"), At("b", "left", 20), Beside("a", "above", "b"), At("b", "top", 20)]
        self.kept(["a", "b"], ends, a=box(12, 16, 8, 4), b=box(20, 20, 8, 4))
        self.kept(["b", "a"], ends, a=box(12, 16, 8, 4), b=box(20, 20, 8, 4))

    def test_what_settled_ahead_settles_later_parts(self):
        # The left of a is settled by the rest rule ahead of any part of b, so b can only be wider.
        self.kept(["a", "b"], [Beside("b", "left", "a", 1), At("b", "left", -30)], b=box(-30, 0, 29, 4))
        self.kept(["b", "a"], [Beside("b", "left", "a", 1), At("b", "left", -30)],
                  b=box(-30, 0, 8, 4), a=box(-21, 0, 8, 4))
        chain = [Alike("b", "left", "a", 2), Alike("c", "left", "b", 3), At("c", "left", 9)]
        self.kept(["a", "b", "c"], chain, a=box(3 * HALF, 0, 8, 4), b=box(3, 0, 8, 4), c=box(9, 0, 8, 4))

    def test_halves_and_quarters(self):
        across = [At("b", "left", 9), Amid("c", "across", "a", "b")]
        self.kept(["a", "b", "c"], across, b=box(9, 0, 8, 4), c=box(9 * HALF, 0, 8, 4))
        down = [At("b", "top", 9), Amid("c", "down", "a", "b"), Amid("d", "down", "a", "c")]
        self.kept(["a", "b", "c", "d"], down,
                  b=box(0, 9, 8, 4), c=box(0, 9 * HALF, 8, 4), d=box(0, 9 * HALF * HALF, 8, 4))
        self.kept(["a", "b"], [At("a", "wide", -1), Alike("a", "wide", "b", 9)],
                  a=box(0, 0, -1, 4), b=box(0, 0, Fraction(-1, 9), 4))

    def test_parts_that_settle_only_together(self):
        # b ends at 10, and its middle is that of a and c, 6: so it begins at 2 and is 8 less, that is 4 each.
        sayings = [
            At("c", "left", 10), Beside("b", "left", "c"), At("a", "left", 0), At("a", "wide", 4),
            At("c", "wide", 0), Amid("b", "across", "a", "c")]
        self.kept(["b", "a", "c"], sayings, a=box(0, 0, 4, 4), b=box(2, 0, 8, 4), c=box(10, 0, 0, 4))
        # The left of a is twice that of b, and the two are 3 and the width of b apart, which is 2.
        sayings = [Beside("a", "right", "b", 3), Alike("a", "left", "b", 2), At("b", "wide", 2)]
        self.kept(["a", "b"], sayings, a=box(10, 0, 8, 4), b=box(5, 0, 2, 4))

    def test_six_boxes_and_all_sorts(self):
        sayings = [
            At("a", "left", 3), At("a", "high", 5), Beside("b", "right", "a", 2), Beside("c", "below", "b", -1),
            Alike("c", "wide", "a", 2), Amid("d", "across", "a", "b"), Amid("d", "down", "a", "c"),
            Alike("e", "left", "d"), Beside("f", "left", "e", 4), Alike("f", "high", "a", 2), Beside("f", "above", "e")]
        self.kept(
            ["a", "b", "c", "d", "e", "f"], sayings,
            a=box(3, 0, 8, 5), b=box(13, 0, 8, 4), c=box(0, 3, 16, 4), d=box(8, Fraction(7, 4), 8, 4),
            e=box(8, 0, 8, 4), f=box(-4, -10, 8, 10))

    def test_sixteen_sayings(self):
        sayings = [At("a", part, 2) for part in PARTS] * 4
        self.kept(["a", "b"], sayings, a=box(2, 2, 2, 2))

    def test_shares_in_lowest_parts(self):
        told = drawn(Sheet(["a", "b", "c"], [At("b", "left", -7), Amid("c", "across", "a", "b")])).places
        self.assertEqual(told["c"], ((-7, 2), (0, 1), (8, 1), (4, 1)))
        for place in told.values():
            self.assertIs(place.__class__, tuple)
            for one in place:
                self.assertEqual([kind.__class__ for kind in (one, *one)], [tuple, int, int])

    def test_many_sheets(self):
        for sheet in any_sheets("kept", 250, False):
            told = drawn(sheet)
            self.assertIs(told.__class__, Kept)
            self.assertEqual(told.places, rest_places(sheet.names(), sheet.sayings()))
            self.assertEqual(list(told.places), sheet.names())
            self.assertIs(told.shows(sheet), True)


class Clashes(unittest.TestCase):
    def clash(self, names, sayings, lots):
        """The lot that is told is one of those, and shown."""
        sheet = Sheet(names, sayings)
        told = drawn(sheet)
        self.assertIs(told.__class__, Clash)
        self.assertEqual(len(told.numbers), len(sayings))
        self.assertTrue(all(number.__class__ is int for number in told.numbers))
        self.assertIn([at for at, many in enumerate(told.numbers) if many], lots)
        self.assertTrue(is_least_lot(names, sayings, told.numbers))
        self.assertIs(told.shows(sheet), True)

    def test_two_that_say_otherwise(self):
        self.clash(["a"], [At("a", "left", 3), At("a", "left", 4)], [[0, 1]])
        self.clash(["a", "b"], [Beside("a", "right", "b", 1), Beside("b", "left", "a", 2)], [[0, 1]])
        self.clash(["a", "b"], [Alike("a", "top", "b"), At("b", "left", 1), At("a", "left", 1), At("a", "top", 1),
                                At("b", "top", 2)], [[0, 3, 4]])

    def test_many_that_have_nothing_to_do_with_it(self):
        other = [At("a", "top", 1), At("b", "top", 2), Alike("c", "high", "a", 2), Amid("c", "down", "a", "b")]
        first, second = At("a", "wide", 3), At("a", "wide", 4)
        self.clash(["a", "b", "c"], [*other, first, second], [[4, 5]])
        self.clash(["a", "b", "c"], [first, *other, second], [[0, 5]])
        self.clash(["a", "b", "c"], [first, second, *other], [[0, 1]])
        self.clash(["a", "b", "c"], [*other[:2], first, other[2], second, other[3]], [[2, 4]])

    def test_round_about(self):
        names = ["a", "b", "c", "d", "e", "f"]
        widths = [At(name, "wide", 2) for name in names]
        steps = [Beside(ahead, "right", name, 1) for name, ahead in zip(names, names[1:])]
        # b begins 3 behind a, c 3 behind b: f 15 behind a, and so ends 17 behind it.
        self.clash(names, widths + steps + [Beside("f", "left", "a", -16)], [list(range(12))])
        self.assertIs(drawn(Sheet(names, widths + steps + [Beside("f", "left", "a", -17)])).__class__, Kept)

    def test_several_lots(self):
        sayings = [At("a", "left", 1), At("b", "left", 1), At("a", "left", 2), At("b", "left", 2), At("a", "left", 3)]
        self.clash(["a", "b"], sayings, [[0, 2], [0, 4], [2, 4], [1, 3]])

    def test_sayings_that_stand_there_twice(self):
        sayings = [At("a", "left", 1), At("a", "left", 1), At("b", "top", 0), At("a", "left", 2), At("a", "left", 2)]
        self.clash(["a", "b"], sayings, [[0, 3], [0, 4], [1, 3], [1, 4]])

    def test_numbers_that_are_not_1(self):
        sayings = [Alike("a", "wide", "b", 3), Alike("b", "wide", "c", 2), At("c", "wide", 2), At("a", "wide", 13)]
        self.clash(["a", "b", "c"], sayings, [[0, 1, 2, 3]])
        sayings = [Amid("c", "across", "a", "b"), At("a", "left", 0), At("a", "wide", 1), At("b", "left", 4),
                   At("b", "wide", 2), At("c", "wide", 2), At("c", "left", 2)]
        self.clash(["a", "b", "c"], sayings, [[0, 1, 2, 3, 4, 5, 6]])

    def test_a_box_that_is_many_times_itself(self):
        # Its width would be 4 times itself, which 0 is, but not 1.
        round_about = [Alike("a", "wide", "b", 2), Alike("b", "wide", "a", 2)]
        told = drawn(Sheet(["a", "b"], round_about))
        self.assertEqual(told.places, {"a": box(0, 0, 0, 4), "b": box(0, 0, 0, 4)})
        self.clash(["a", "b"], round_about + [At("b", "wide", 1)], [[0, 1, 2]])

    def test_sixteen_sayings(self):
        self.clash(["a"], [At("a", "left", number) for number in range(16)],
                   [[one, two] for two in range(16) for one in range(two)])

    def test_many_sheets(self):
        for sheet in any_sheets("clash", 250, True):
            told = drawn(sheet)
            self.assertIs(told.__class__, Clash)
            self.assertTrue(is_least_lot(sheet.names(), sheet.sayings(), told.numbers))
            self.assertIs(told.shows(sheet), True)


class KnownOrLoose(unittest.TestCase):
    def known(self, sheet, name, part, value):
        told = known(sheet, name, part)
        self.assertIs(told.__class__, Known)
        self.assertEqual(told.value, share(value))
        self.assertEqual([kind.__class__ for kind in (told.value, *told.value)], [tuple, int, int])
        self.assertIs(told.times.__class__, int)
        self.assertGreaterEqual(told.times, 1)
        self.assertTrue(all(number.__class__ is int for number in told.numbers))
        self.assertEqual(len(told.numbers), len(sheet.sayings()))
        parts, number = together(sheet.sayings(), told.numbers)
        self.assertEqual(parts, {(name, part): told.times})
        self.assertEqual(Fraction(number, told.times), value)
        self.assertIs(told.shows(sheet, name, part), True)

    def loose(self, sheet, name, part, before=None):
        told = known(sheet, name, part)
        self.assertIs(told.__class__, Loose)
        self.assertEqual(set(told.places), set(sheet.names()))
        self.assertTrue(all(saying.keeps(told.places) for saying in sheet.sayings()))
        at = PARTS.index(part)
        before = before or rest_places(sheet.names(), sheet.sayings())
        self.assertEqual(Fraction(*told.places[name][at]), Fraction(*before[name][at]) + 1)
        for place in told.places.values():
            self.assertEqual(place, box(*[Fraction(*one) for one in place]))
        self.assertIs(told.shows(sheet, name, part), True)

    def test_nothing_is_said(self):
        for part in PARTS:
            self.loose(Sheet(["a"], []), "a", part)

    def test_said_itself(self):
        sheet = Sheet(["a", "b"], [At("b", "top", 7), At("a", "wide", -3), At("a", "wide", -3)])
        self.known(sheet, "a", "wide", -3)
        self.known(sheet, "b", "top", 7)
        for name, part in (("a", "left"), ("a", "top"), ("a", "high"), ("b", "wide"), ("b", "left"), ("b", "high")):
            self.loose(sheet, name, part)

    def test_known_by_way_of_others(self):
        sheet = Sheet(["a", "b", "c"], [
            At("a", "left", 1), Beside("b", "right", "a", 2), At("a", "wide", 4), Amid("c", "across", "a", "b"),
            Alike("c", "wide", "a", 2), Alike("a", "wide", "b", 3)])
        self.known(sheet, "b", "left", 7)
        self.known(sheet, "b", "wide", Fraction(4, 3))
        # The middles are 3 and 7 and 2 thirds, so c's is 16 thirds, and it is 8 wide.
        self.known(sheet, "c", "left", Fraction(16, 3) - 4)
        self.known(sheet, "c", "wide", 8)
        self.loose(sheet, "c", "top")

    def test_what_only_the_rest_rule_settles_is_loose(self):
        sheet = Sheet(["a", "b"], [Beside("b", "right", "a", 2), Alike("b", "wide", "a", 3)])
        for name in ("a", "b"):
            for part in PARTS:
                self.loose(sheet, name, part)

    def test_known_only_together(self):
        sheet = Sheet(["a", "b"], [Beside("a", "right", "b", 3), Alike("a", "left", "b", 2), At("b", "wide", 2)])
        self.known(sheet, "a", "left", 10)
        self.known(sheet, "b", "left", 5)
        self.loose(sheet, "a", "wide")

    def test_below_0_and_0(self):
        sheet = Sheet(["a", "b"], [At("a", "left", -3), Alike("a", "left", "b", 2), Alike("a", "wide", "b", 2),
                                   Alike("b", "wide", "a", 2)])
        self.known(sheet, "b", "left", Fraction(-3, 2))
        self.known(sheet, "a", "wide", 0)
        self.known(sheet, "b", "wide", 0)

    def test_each_part_of_many_sheets(self):
        counted = {Known: 0, Loose: 0}
        for sheet in any_sheets("known", 120, False):
            worked = numbers_of(sheet.names(), sheet.sayings())
            before = rest_places(sheet.names(), sheet.sayings())
            for name in sheet.names():
                for part in PARTS:
                    value = worked.value({(name, part): 1})
                    if value is None:
                        self.loose(sheet, name, part, before)
                    else:
                        self.known(sheet, name, part, value)
                    counted[Loose if value is None else Known] += 1
        self.assertGreater(min(counted.values()), 200)


class FollowsOrBreaks(unittest.TestCase):
    def follows(self, sheet, saying):
        told = follows(sheet, saying)
        self.assertIs(told.__class__, Follows)
        self.assertIs(told.times.__class__, int)
        self.assertGreaterEqual(told.times, 1)
        self.assertTrue(all(number.__class__ is int for number in told.numbers))
        self.assertEqual(len(told.numbers), len(sheet.sayings()))
        self.assertEqual(together(sheet.sayings(), told.numbers), together([saying], [told.times]))
        self.assertIs(told.shows(sheet, saying), True)

    def breaks(self, sheet, saying):
        told = follows(sheet, saying)
        self.assertIs(told.__class__, Breaks)
        self.assertEqual(set(told.places), set(sheet.names()))
        for place in told.places.values():
            self.assertEqual(place, box(*[Fraction(*one) for one in place]))
        self.assertTrue(all(kept.keeps(told.places) for kept in sheet.sayings()))
        self.assertFalse(saying.keeps(told.places))
        self.assertIs(told.shows(sheet, saying), True)

    def test_those_that_stand_in_the_sheet(self):
        sayings = [At("a", "left", 3), Beside("b", "right", "a", 2), Alike("c", "high", "a", 2),
                   Amid("c", "down", "a", "b"), Alike("c", "high", "a", 2)]
        sheet = Sheet(["a", "b", "c"], sayings)
        for saying in sayings:
            self.follows(sheet, saying)
        self.follows(sheet, Beside("b", "right", "a", 2))
        self.follows(sheet, Amid("c", "down", "b", "a"))

    def test_sums_of_others(self):
        sheet = Sheet(["a", "b", "c"], [
            At("a", "left", 3), At("a", "wide", 4), Beside("b", "right", "a", 2), Alike("c", "left", "b", 3),
            Beside("c", "below", "a"), Beside("b", "above", "c", 5)])
        self.follows(sheet, At("b", "left", 9))
        self.follows(sheet, At("c", "left", 27))
        self.follows(sheet, Alike("b", "left", "a", 3))
        self.follows(sheet, Beside("a", "left", "b", 2))
        self.breaks(sheet, At("b", "left", 8))
        self.breaks(sheet, Alike("b", "left", "a", 2))

    def test_so_many_times(self):
        sheet = Sheet(["a", "b", "c"], [Alike("a", "wide", "b", 2), Alike("a", "wide", "c", 6), At("c", "left", 0)])
        self.follows(sheet, Alike("b", "wide", "c", 3))
        self.breaks(sheet, Alike("b", "wide", "c", 2))
        self.breaks(sheet, Alike("c", "wide", "b", 3))

    def test_nothing_is_said(self):
        for saying in (At("a", "left", 0), At("a", "wide", 8), At("a", "left", 1), Alike("a", "wide", "b"),
                       Beside("b", "right", "a", -8), Amid("c", "across", "a", "b"), Amid("c", "down", "a", "b")):
            self.breaks(Sheet(["a", "b", "c"], []), saying)

    def test_kept_by_the_sheets_own_places_alone(self):
        sheet = Sheet(["a", "b"], [Beside("b", "right", "a", 2)])
        for saying in (At("b", "left", 10), At("a", "wide", 8), Alike("a", "wide", "b"), Beside("a", "left", "b", 2)):
            self.assertTrue(saying.keeps(drawn(sheet).places))
        self.breaks(sheet, At("b", "left", 10))
        self.breaks(sheet, At("a", "wide", 8))
        self.breaks(sheet, Alike("a", "wide", "b"))
        self.follows(sheet, Beside("a", "left", "b", 2))

    def test_those_that_do_not_hold(self):
        sheet = Sheet(["a", "b"], [At("a", "left", 3), Beside("b", "right", "a", 2)])
        self.breaks(sheet, At("a", "left", 4))
        self.breaks(sheet, Beside("b", "right", "a", 3))
        self.breaks(sheet, Beside("a", "right", "b", 2))

    def test_of_a_sheet_with_16_sayings(self):
        sheet = Sheet(["a"], [At("a", part, 2) for part in PARTS] * 4)
        self.follows(sheet, At("a", "left", 2))
        self.breaks(sheet, At("a", "left", 3))

    def test_many_sheets(self):
        rng = Random("follows")
        counted = {Follows: 0, Breaks: 0}
        for sheet in any_sheets("follows", 150, False):
            worked = numbers_of(sheet.names(), sheet.sayings())
            for saying in sheet.sayings()[:3] + [any_saying(rng, sheet.names()) for _ in range(8)]:
                parts, number = saying.adds()
                if worked.value(parts) == number:
                    self.follows(sheet, saying)
                    counted[Follows] += 1
                else:
                    self.breaks(sheet, saying)
                    counted[Breaks] += 1
        self.assertGreater(min(counted.values()), 100)


class Moved(unittest.TestCase):
    def test_nothing_moves(self):
        sheet = Sheet(["a", "b"], [At("a", "left", 3)])
        self.assertEqual(moved(sheet, sheet), [])
        self.assertEqual(moved(sheet, Sheet(["a", "b"], [At("a", "left", 3), At("a", "wide", 8)])), [])

    def test_each_part_moves(self):
        for part in PARTS:
            self.assertEqual(moved(Sheet(["a", "b"], []), Sheet(["a", "b"], [At("b", part, 77)])), ["b"])

    def test_boxes_in_their_turn(self):
        names = ["f", "b", "e", "a", "d", "c"]
        there = Sheet(names, [At(name, "top", 9) for name in ("a", "b", "c", "e")])
        self.assertEqual(moved(Sheet(names, []), there), ["b", "e", "a", "c"])
        self.assertEqual(moved(there, Sheet(names, [])), ["b", "e", "a", "c"])

    def test_what_hangs_together(self):
        chain = [Beside("b", "right", "a"), Beside("c", "right", "b"), Beside("e", "right", "d"), At("f", "left", 1)]
        sheet = Sheet(["a", "b", "c", "d", "e", "f"], chain)
        self.assertEqual(moved(sheet, put(sheet, 2, At("a", "left", 5))), ["a", "b", "c"])
        self.assertEqual(moved(sheet, put(sheet, 0, At("d", "wide", 5))), ["d", "e"])
        self.assertEqual(moved(sheet, put(sheet, 0, At("d", "top", 5))), ["d"])
        self.assertEqual(moved(sheet, taken(sheet, 1)), ["c"])
        self.assertEqual(moved(taken(sheet, 1), sheet), ["c"])

    def hanging(self, sheet, names):
        """The boxes that hang together with one of those."""
        told = set(names)
        for _ in sheet.names():
            for saying in sheet.sayings():
                if told & set(saying.names()):
                    told |= set(saying.names())
        return told

    def test_many_sheets(self):
        rng = Random("moved")
        unlike = 0
        for sheet in any_sheets("moved", 150, False):
            further = any_saying(rng, sheet.names())
            if len(sheet.sayings()) == 16 or not can_be_kept(sheet.names(), [*sheet.sayings(), further]):
                continue
            more = put(sheet, rng.randint(0, len(sheet.sayings())), further)
            before, after = (rest_places(one.names(), one.sayings()) for one in (sheet, more))
            wanted = [name for name in sheet.names() if before[name] != after[name]]
            self.assertEqual(moved(sheet, more), wanted)
            self.assertEqual(moved(more, sheet), wanted)
            self.assertLessEqual(set(wanted), self.hanging(more, further.names()))
            unlike += len(wanted)
        self.assertGreater(unlike, 50)


class Refused(unittest.TestCase):
    def refused(self, error, asked, *arguments):
        with self.assertRaises(error) as caught:
            asked(*arguments)
        self.assertIs(caught.exception.__class__, error)
        return caught.exception

    def test_what_is_no_sheet(self):
        sheet = Sheet(["a"], [])
        saying = At("a", "left", 3)
        for wrong in others(Sheet) + [Sheet, saying, (["a"], []), [sheet]]:
            self.refused(BadSheet, drawn, wrong)
            self.refused(BadSheet, known, wrong, "a", "left")
            self.refused(BadSheet, follows, wrong, saying)
            self.refused(BadSheet, moved, wrong, sheet)
            self.refused(BadSheet, moved, sheet, wrong)

    def test_no_box_or_no_part(self):
        sheet = Sheet(["a", "left"], [])
        for wrong in others(str) + ["b", "", "A", "a ", "abcdefghi", "top", "a" * 5000]:
            self.refused(BadPart, known, sheet, wrong, "left")
        for wrong in others(str) + ["", "a", "right", "bottom", "Left", "left ", "across", "width", "lef", "topwide"]:
            self.refused(BadPart, known, sheet, "a", wrong)

    def test_no_saying_of_its_names(self):
        sheet = Sheet(["a", "b"], [At("a", "left", 3)])
        for wrong in others(Saying) + [At, sheet, [At("a", "left", 3)], Saying(), At("c", "left", 3),
                                       Beside("a", "left", "c"), Alike("c", "wide", "a"), Amid("a", "down", "b", "c")]:
            self.refused(BadSaying, follows, sheet, wrong)

    def test_unlike_names(self):
        sheet = Sheet(["a", "b"], [])
        for names in (["b", "a"], ["a"], ["a", "b", "c"], ["a", "c"], ["c", "b"]):
            self.refused(Unlike, moved, sheet, Sheet(names, []))
            self.refused(Unlike, moved, Sheet(names, []), sheet)

    def test_clashing_tells_numbers(self):
        sheet, fine = clashing(), Sheet(["a", "b"], [])
        for asked in (lambda: known(sheet, "a", "left"), lambda: known(sheet, "b", "high"),
                      lambda: follows(sheet, At("a", "left", 3)), lambda: follows(sheet, At("a", "left", 4)),
                      lambda: moved(sheet, fine), lambda: moved(fine, sheet), lambda: moved(sheet, sheet)):
            error = self.refused(Clashing, asked)
            self.assertTrue(is_least_lot(sheet.names(), sheet.sayings(), error.numbers))
            self.assertIs(Clash(error.numbers).shows(sheet), True)

    def test_part_and_saying_go_ahead_of_clashing(self):
        sheet = clashing()
        self.refused(BadPart, known, sheet, "c", "left")
        self.refused(BadPart, known, sheet, "a", "right")
        self.refused(BadPart, known, sheet, None, "left")
        self.refused(BadSaying, follows, sheet, None)
        self.refused(BadSaying, follows, sheet, At("c", "left", 3))

    def test_unlike_goes_ahead_of_clashing(self):
        self.refused(Unlike, moved, clashing(), Sheet(["b", "a"], []))
        self.refused(Unlike, moved, Sheet(["b", "a"], []), clashing())
        self.refused(Unlike, moved, clashing(), Sheet(["b", "a"], clashing().sayings()))

    def test_the_sheet_clashes_ahead_of_the_other_one(self):
        other = Sheet(["a", "b"], [At("a", "wide", 1), At("a", "wide", 2)])
        error = self.refused(Clashing, moved, clashing(), other)
        self.assertTrue(is_least_lot(["a", "b"], clashing().sayings(), error.numbers))
        error = self.refused(Clashing, moved, other, clashing())
        self.assertTrue(is_least_lot(["a", "b"], other.sayings(), error.numbers))


class Own(unittest.TestCase):
    def asked(self, sheet):
        """All that is told of a sheet, as fields."""
        told = []
        for name in sheet.names():
            for part in PARTS:
                told.append(known(sheet, name, part))
        told += [drawn(sheet), follows(sheet, At("a", "left", 3)), follows(sheet, At("a", "left", 4))]
        return told

    def test_what_is_told_is_new(self):
        sheet = Sheet(["a", "b"], [At("a", "left", 3), Beside("b", "right", "a", 2), At("a", "wide", 1)])
        before = [dict(vars(answer)) for answer in self.asked(sheet)]
        for answer in self.asked(sheet):
            spoil(list(vars(answer).values()))
        self.assertEqual([dict(vars(answer)) for answer in self.asked(sheet)], before)

    def test_clashes_are_new(self):
        sheet = clashing()
        before = drawn(sheet).numbers
        drawn(sheet).numbers.reverse()
        spoil(drawn(sheet).numbers)
        for _ in range(2):
            with self.assertRaises(Clashing) as caught:
                known(sheet, "a", "left")
            self.assertEqual(caught.exception.numbers, before)
            spoil(caught.exception.numbers)
        self.assertEqual(drawn(sheet).numbers, before)

    def test_moved_is_new(self):
        sheet, other = Sheet(["a", "b"], []), Sheet(["a", "b"], [At("b", "left", 1)])
        spoil(moved(sheet, other))
        self.assertEqual(moved(sheet, other), ["b"])

    def test_sheets_stay_as_they_are(self):
        sayings = [At("a", "left", 3), Beside("b", "right", "a", 2), At("a", "wide", 1)]
        sheet = Sheet(["b", "a"], list(sayings))
        adds = [saying.adds() for saying in sayings]
        self.asked(sheet)
        moved(sheet, Sheet(["b", "a"], []))
        self.assertEqual(sheet.names(), ["b", "a"])
        self.assertEqual(sheet.sayings(), sayings)
        self.assertEqual([saying.adds() for saying in sayings], adds)

    def test_arguments_by_name(self):
        sheet = Sheet(["a"], [At("a", "left", 3)])
        self.assertIs(drawn(sheet=sheet).__class__, Kept)
        self.assertIs(known(sheet=sheet, name="a", part="left").__class__, Known)
        self.assertIs(follows(sheet=sheet, saying=At("a", "left", 3)).__class__, Follows)
        self.assertEqual(moved(sheet=sheet, other=Sheet(["a"], [])), ["a"])


if __name__ == "__main__":
    unittest.main()
