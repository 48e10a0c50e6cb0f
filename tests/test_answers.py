"""wheresay.answers: what answers made by hand tell of sheets (points 4 to 6), and that they copy."""

import unittest
from fractions import Fraction

from tests.helper import PARTS, box, others, own_parts, rest_places, share, spoil
from wheresay.answers import Answer, Breaks, Clash, Follows, Kept, Known, Led, Loose, Walled
from wheresay.sayings import Alike, Amid, At, Beside
from wheresay.sheets import Sheet

HALF = Fraction(1, 2)
# Each told otherwise than a share is told, or no share at all.
NO_SHARES = [
    (4, 2), (0, 2), (-2, -1), (3, -1), (3, 0), (1, 0), (-1, 0), (0, 0), (0, -1), (3,), (3, 1, 1), (),
    3, True, None, "3", [3, 1], (True, 1), (3, True), ("3", 1), (3, None), ((3, 1), 1)]


def fine():
    """A sheet that can be kept."""
    return Sheet(["a", "b", "c"], [
        At("a", "left", 3), Beside("b", "right", "a", 2), Alike("a", "wide", "b", 2), At("b", "wide", 4)])


def clashing():
    """A sheet that can't be kept: the first one, the third and the last say otherwise."""
    return Sheet(["a", "b", "c"], [
        At("a", "left", 3), At("b", "top", 1), Alike("a", "left", "b", 3), At("c", "wide", 2), At("b", "left", 2)])


FINE = {"a": box(3, 0, 8, 4), "b": box(13, 0, 4, 4), "c": box(0, 0, 8, 4)}


def changed(places, name, part, value):
    """The places with another share, or whatever it is, as a part of a box."""
    place = list(places[name])
    place[PARTS.index(part)] = value
    return {**places, name: tuple(place)}


def turned(told):
    """The dict in another turn."""
    return dict(reversed(list(told.items())))


def wrong_places():
    """What are no places of the boxes of the sheet."""
    without = {name: FINE[name] for name in ("a", "b")}
    told = [without, {}, {**FINE, "d": FINE["c"]}, {**without, "d": FINE["c"]}, {**without, 3: FINE["c"]},
            {**FINE, "c": FINE["c"][:3]}, {**FINE, "c": FINE["c"] + ((0, 1),)}, {**FINE, "c": list(FINE["c"])},
            {**FINE, "c": (0, 0, 8, 4)}, {**FINE, "c": None}, list(FINE.items()), None, 3, "abc", True]
    return told + [changed(FINE, "c", "left", wrong) for wrong in NO_SHARES]


class Base(unittest.TestCase):
    def yes(self, answer, *asked):
        self.assertIs(answer.shows(*asked), True)

    def no(self, answer, *asked):
        self.assertIs(answer.shows(*asked), False)


class Classes(Base):
    def test_all_stand_under_answer(self):
        for sort in (Kept, Clash, Known, Loose, Follows, Breaks, Led, Walled):
            self.assertTrue(issubclass(sort, Answer))
            self.assertIn("shows", vars(sort))

    def test_fields(self):
        told = {
            Kept(FINE): {"places": FINE}, Clash([1, -1]): {"numbers": [1, -1]},
            Known([1, 0], 2, (1, 2)): {"numbers": [1, 0], "times": 2, "value": (1, 2)}, Loose(FINE): {"places": FINE},
            Follows([0, 3], 4): {"numbers": [0, 3], "times": 4}, Breaks(FINE): {"places": FINE},
            Led([(0, 1), (0, 2)], {(0, 1, "up"): (0, 1)}):
                {"points": [(0, 1), (0, 2)], "heights": {(0, 1, "up"): (0, 1)}},
            Walled([(0, 1)]): {"points": [(0, 1)]}}
        for answer, fields in told.items():
            self.assertEqual(vars(answer), fields)

    def test_fields_by_name(self):
        self.assertEqual(vars(Known(value=(1, 2), times=2, numbers=[1])), vars(Known([1], 2, (1, 2))))
        self.assertEqual(vars(Follows(times=2, numbers=[1])), vars(Follows([1], 2)))
        self.assertEqual(vars(Led(heights={}, points=[])), vars(Led([], {})))
        for sort in (Kept, Loose, Breaks):
            self.assertEqual(sort(places=FINE).places, FINE)
        self.assertEqual(Clash(numbers=[1]).numbers, [1])
        self.assertEqual(Walled(points=[(0, 1)]).points, [(0, 1)])

    def test_what_is_asked_by_name(self):
        sheet = fine()
        self.assertIs(Known([1, 0, 0, 0], 1, (3, 1)).shows(sheet=sheet, name="a", part="left"), True)
        self.assertIs(Follows([1, 0, 0, 0], 1).shows(sheet=sheet, saying=At("a", "left", 3)), True)
        self.assertIs(Kept(FINE).shows(sheet=sheet), True)
        self.assertIs(Walled([]).shows(blocks={"a": (0, 0, 1, 1), "b": (5, 0, 1, 1)}, one="a", other="b"), False)

    def test_lists_and_dicts_are_copied(self):
        def places():
            return {"a": [[1, 1], (1, [2])], "b": box(1, 2, 3, 4)}

        def points():
            return [(0, 1), [2, 3], ([4], 5)]

        made = [
            (Kept, lambda: [places()]), (Loose, lambda: [places()]), (Breaks, lambda: [places()]),
            (Clash, lambda: [[1, [2]]]), (Walled, lambda: [points()]),
            (Known, lambda: [[1, 2], [3], [4, [5]]]), (Follows, lambda: [[1, 2], [3]]),
            (Led, lambda: [points(), {(0, 1, "up"): [0, [1]], (0, 2, "up"): ([0], {"a": [1]})}])]
        for sort, make in made:
            handed = make()
            answer = sort(*handed)
            inner = {id(one) for one in own_parts(list(vars(answer).values()))}
            self.assertFalse(inner & {id(one) for one in own_parts(handed)})
            spoil(handed)
            self.assertEqual(list(vars(answer).values()), make())
            handed = make()
            spoil(list(vars(sort(*handed)).values()))
            self.assertEqual(handed, make())

    def test_two_answers_of_the_same_share_nothing(self):
        places = dict(FINE)
        first, second = Kept(places), Kept(places)
        first.places["a"] = None
        self.assertEqual((places, second.places), (FINE, FINE))


class OfKept(Base):
    def test_those_of_the_rest_rule(self):
        self.yes(Kept(FINE), fine())
        self.yes(Kept(turned(FINE)), fine())
        self.yes(Kept({"a": box(0, 0, 8, 4)}), Sheet(["a"], []))

    def test_other_places_that_keep_all(self):
        for name, part in (("a", "top"), ("a", "high"), ("c", "left"), ("c", "top"), ("c", "wide"), ("c", "high")):
            self.no(Kept(changed(FINE, name, part, (1, 2))), fine())

    def test_places_that_do_not_keep_all(self):
        for name, part in (("a", "left"), ("a", "wide"), ("b", "left"), ("b", "wide")):
            self.no(Kept(changed(FINE, name, part, (1, 2))), fine())

    def test_no_places_of_its_boxes(self):
        for wrong in wrong_places():
            self.no(Kept(wrong), fine())

    def test_shares_told_otherwise(self):
        self.no(Kept(changed(FINE, "a", "left", (6, 2))), fine())
        self.no(Kept(changed(FINE, "c", "left", (0, 2))), fine())
        self.no(Kept(changed(FINE, "a", "left", (-3, -1))), fine())
        one = Sheet(["a"], [At("a", "wide", 1)])
        self.yes(Kept({"a": box(0, 0, 1, 4)}), one)
        self.no(Kept({"a": ((0, 1), (0, 1), (True, 1), (4, 1))}), one)
        self.no(Kept({"a": ((0, 1), (0, True), (1, 1), (4, 1))}), one)
        self.no(Kept({"a": ((False, 1), (0, 1), (1, 1), (4, 1))}), one)

    def test_other_sheets(self):
        self.no(Kept(FINE), clashing())
        self.no(Kept(FINE), Sheet(["a", "b"], []))
        self.no(Kept(FINE), Sheet(["a", "b", "c"], []))
        self.yes(Kept(FINE), Sheet(["c", "a", "b"], fine().sayings()))
        # In another turn, another box may be the one that moves.
        beside = [Beside("b", "right", "a")]
        places = {"a": box(0, 0, 8, 4), "b": box(8, 0, 8, 4)}
        self.yes(Kept(places), Sheet(["a", "b"], beside))
        self.no(Kept(places), Sheet(["b", "a"], beside))

    def test_the_field_as_it_stands(self):
        answer = Kept({})
        answer.places = dict(FINE)
        self.yes(answer, fine())
        answer.places["c"] = box(1, 0, 8, 4)
        self.no(answer, fine())


class OfClash(Base):
    def test_numbers_that_show_it(self):
        # a's left is 3, and 3 times b's, which is 2.
        self.yes(Clash([1, 0, -1, 0, -3]), clashing())
        self.yes(Clash([-1, 0, 1, 0, 3]), clashing())
        self.yes(Clash([7, 0, -7, 0, -21]), clashing())

    def test_numbers_that_do_not(self):
        for wrong in ([0, 0, 0, 0, 0], [1, 0, 1, 0, -3], [1, 0, -1, 0, 3], [1, 0, -1, 0, 0], [1, 0, -1, 0, -2],
                      [1, 1, -1, 0, -3], [1, 0, -1, 2, -3], [0, 0, 0, 0, 1]):
            self.no(Clash(wrong), clashing())

    def test_lists_too_short_or_too_long(self):
        for wrong in ([1, 0, -1, 0], [1, 0, -1, 0, -3, 0], [1, 0, -1, 0, -3, 1], [], [1, -1, -3]):
            self.no(Clash(wrong), clashing())

    def test_what_is_no_list_of_numbers(self):
        for wrong in others() + [(1, 0, -1, 0, -3), [1, False, -1, 0, -3], [True, 0, -1, 0, -3],
                                 [1, None, -1, 0, -3], [1, "0", -1, 0, -3], [1, (0,), -1, 0, -3]]:
            self.no(Clash(wrong), clashing())

    def test_sums_that_come_to_0(self):
        twice = Sheet(["a"], [At("a", "left", 3), At("a", "left", 3), At("a", "left", 4)])
        self.no(Clash([1, -1, 0]), twice)
        self.yes(Clash([1, 0, -1]), twice)
        self.yes(Clash([0, 2, -2]), twice)

    def test_lots_that_are_not_least(self):
        twice = Sheet(["a"], [At("a", "left", 3), At("a", "left", 3), At("a", "left", 4)])
        self.no(Clash([1, 1, -2]), twice)
        self.no(Clash([2, -1, -1]), twice)
        two_lots = Sheet(["a", "b"], [
            At("a", "left", 1), At("b", "left", 1), At("a", "left", 2), At("b", "left", 2)])
        self.yes(Clash([1, 0, -1, 0]), two_lots)
        self.yes(Clash([0, 5, 0, -5]), two_lots)
        self.no(Clash([1, 1, -1, -1]), two_lots)
        self.no(Clash([1, 2, -1, -2]), two_lots)
        three = Sheet(["a"], [At("a", "left", 1), At("a", "left", 2), At("a", "left", 3)])
        self.no(Clash([1, 1, -2]), three)
        self.yes(Clash([1, 0, -1]), three)

    def test_sayings_that_keep_each_other_beside_a_clash(self):
        # The first two come to nothing of themselves, so they can be left out of any lot.
        sheet = Sheet(["a", "b"], [
            Beside("a", "right", "b", 1), Beside("b", "left", "a", 1), At("a", "top", 1), At("a", "top", 2)])
        self.yes(Clash([0, 0, 1, -1]), sheet)
        self.no(Clash([1, 1, 1, -1]), sheet)
        self.no(Clash([1, -1, 1, -1]), sheet)

    def test_sheets_that_can_be_kept(self):
        for numbers in ([0, 0, 0, 0], [1, 0, 0, 0], [1, 1, -1, 2]):
            self.no(Clash(numbers), fine())
        self.no(Clash([]), Sheet(["a"], []))
        self.no(Clash([1, -1]), Sheet(["a"], [At("a", "left", 3), At("a", "left", 3)]))

    def test_other_sheets(self):
        numbers = [1, 0, -1, 0, -3]
        self.no(Clash(numbers), Sheet(["a", "b", "c"], clashing().sayings()[::-1]))
        self.no(Clash(numbers), Sheet(["a", "b", "c"], clashing().sayings()[:4]))
        self.yes(Clash(numbers), Sheet(["c", "b", "a", "d"], clashing().sayings()))

    def test_the_field_as_it_stands(self):
        answer = Clash([1, 0, -1, 0, -3])
        answer.numbers[0] = 2
        self.no(answer, clashing())
        answer.numbers = [2, 0, -2, 0, -6]
        self.yes(answer, clashing())


class OfKnown(Base):
    def test_numbers_that_show_it(self):
        self.yes(Known([1, 0, 0, 0], 1, (3, 1)), fine(), "a", "left")
        self.yes(Known([0, 0, 1, 2], 1, (8, 1)), fine(), "a", "wide")
        self.yes(Known([1, 1, 1, 2], 1, (13, 1)), fine(), "b", "left")
        self.yes(Known([5, 5, 5, 10], 5, (13, 1)), fine(), "b", "left")

    def test_shares_that_are_no_whole_numbers(self):
        sheet = Sheet(["a", "b"], [Alike("a", "left", "b", 6), At("a", "left", -4)])
        self.yes(Known([-1, 1], 6, (-2, 3)), sheet, "b", "left")
        self.yes(Known([-3, 3], 18, (-2, 3)), sheet, "b", "left")
        for value in ((-4, 6), (2, -3), (2, 3), (-1, 3), (-2, 1), (-4, 1), (-12, 18)):
            self.no(Known([-1, 1], 6, value), sheet, "b", "left")
            self.no(Known([-3, 3], 18, value), sheet, "b", "left")

    def test_numbers_that_do_not(self):
        for wrong in ([0, 0, 0, 0], [1, 1, 1, 1], [1, 1, 0, 0], [2, 1, 1, 2], [-1, -1, -1, -2], [1, 1, 1, 2, 0],
                      [1, 1, 1], [], [1, 1, 1, 2, 1]):
            self.no(Known(wrong, 1, (13, 1)), fine(), "b", "left")

    def test_how_many_times(self):
        for wrong in (0, -1, 2, 10, True, None, "1", (1,), [1]):
            self.no(Known([1, 1, 1, 2], wrong, (13, 1)), fine(), "b", "left")
        self.no(Known([-1, -1, -1, -2], -1, (13, 1)), fine(), "b", "left")
        self.no(Known([0, 0, 0, 0], 0, (13, 1)), fine(), "b", "left")
        self.no(Known([0, 0, 0, 0], 0, (0, 1)), fine(), "b", "left")

    def test_values(self):
        for wrong in NO_SHARES + [(12, 1), (14, 1), (-13, 1), (26, 2), (13, -1), (13, 2), (13, 0), 13, [13, 1]]:
            self.no(Known([1, 1, 1, 2], 1, wrong), fine(), "b", "left")
        at_one = Sheet(["a"], [At("a", "left", 1), At("a", "top", 0)])
        self.yes(Known([1, 0], 1, (1, 1)), at_one, "a", "left")
        self.yes(Known([0, 1], 1, (0, 1)), at_one, "a", "top")
        for wrong in ((True, 1), (1, True), (True, True), (1,), 1, (1, 1, 1)):
            self.no(Known([1, 0], 1, wrong), at_one, "a", "left")
        for wrong in ((False, 1), (0, 2), (0, -1), (0, 0), 0):
            self.no(Known([0, 1], 1, wrong), at_one, "a", "top")

    def test_what_is_no_list_of_numbers(self):
        for wrong in others() + [(1, 1, 1, 2), [True, 1, 1, 2], [1, 1, 1, "2"], [1, 1, 1, None]]:
            self.no(Known(wrong, 1, (13, 1)), fine(), "b", "left")

    def test_other_parts_boxes_and_sheets(self):
        answer = Known([1, 0, 0, 0], 1, (3, 1))
        for name in ("a", "b", "c"):
            for part in PARTS:
                self.assertIs(answer.shows(fine(), name, part), (name, part) == ("a", "left"))
        self.no(answer, clashing(), "a", "left")
        self.no(answer, Sheet(["a", "b", "c"], []), "a", "left")
        self.no(answer, Sheet(["a", "b", "c"], [At("a", "left", 4)] + fine().sayings()[1:]), "a", "left")
        self.no(answer, Sheet(["a", "b", "c"], fine().sayings() + [At("c", "top", 1)]), "a", "left")

    def test_of_a_sheet_that_cannot_be_kept(self):
        # The numbers come to the part alone, but the sheet has a clash elsewhere.
        sheet = Sheet(["a"], [At("a", "left", 3), At("a", "top", 1), At("a", "top", 2)])
        self.no(Known([1, 0, 0], 1, (3, 1)), sheet, "a", "left")

    def test_the_fields_as_they_stand(self):
        for field, wrong in (("numbers", [1, 1, 1, 1]), ("times", 2), ("value", (12, 1))):
            answer = Known([1, 1, 1, 2], 1, (13, 1))
            right = getattr(answer, field)
            setattr(answer, field, wrong)
            self.no(answer, fine(), "b", "left")
            setattr(answer, field, right)
            self.yes(answer, fine(), "b", "left")


class OfLoose(Base):
    def test_places_that_show_it(self):
        self.yes(Loose(changed(FINE, "c", "left", (1, 1))), fine(), "c", "left")
        self.yes(Loose(turned(changed(FINE, "c", "wide", (9, 1)))), fine(), "c", "wide")
        both = changed(changed(FINE, "c", "wide", (9, 1)), "c", "top", (1, 1))
        self.yes(Loose(both), fine(), "c", "wide")
        self.yes(Loose(both), fine(), "c", "top")
        self.no(Loose(both), fine(), "c", "left")

    def test_where_other_parts_move_too(self):
        sheet = Sheet(["a", "b"], [Beside("b", "right", "a", 1), Alike("b", "wide", "a", 3)])
        self.yes(Loose({"a": box(1, 0, 8, 4), "b": box(10, 0, 24, 4)}), sheet, "a", "left")
        self.yes(Loose({"a": box(0, 0, 9, 4), "b": box(10, 0, 27, 4)}), sheet, "a", "wide")
        self.yes(Loose({"a": box(0, 0, 8 + Fraction(1, 3), 4), "b": box(9 + Fraction(1, 3), 0, 25, 4)}),
                 sheet, "b", "wide")
        self.no(Loose({"a": box(1, 0, 8, 4), "b": box(9, 0, 24, 4)}), sheet, "a", "left")
        self.no(Loose({"a": box(0, 0, 8, 4), "b": box(9, 0, 25, 4)}), sheet, "b", "wide")

    def test_how_far_it_moves(self):
        for far in (0, -1, 2, HALF):
            self.no(Loose(changed(FINE, "c", "left", share(far))), fine(), "c", "left")
            self.no(Loose(changed(FINE, "c", "high", share(4 + far))), fine(), "c", "high")

    def test_the_places_of_the_rest_rule_themselves(self):
        for part in PARTS:
            self.no(Loose(FINE), fine(), "c", part)

    def test_a_known_part(self):
        self.no(Loose(changed(FINE, "a", "left", (4, 1))), fine(), "a", "left")
        self.no(Loose(FINE), fine(), "a", "left")

    def test_no_places_of_its_boxes(self):
        for wrong in wrong_places():
            self.no(Loose(wrong), fine(), "c", "left")
            self.no(Loose(wrong), fine(), "c", "top")
        sheet = Sheet(["a"], [])
        self.yes(Loose({"a": box(1, 0, 8, 4)}), sheet, "a", "left")
        for wrong in ((2, 2), (True, 1), (1, True), 1, [1, 1], (-1, -1)):
            self.no(Loose({"a": (wrong, (0, 1), (8, 1), (4, 1))}), sheet, "a", "left")

    def test_other_sheets(self):
        places = changed(FINE, "c", "left", (1, 1))
        self.no(Loose(places), clashing(), "c", "left")
        self.no(Loose(places), Sheet(["a", "b", "c", "d"], fine().sayings()), "c", "left")
        self.no(Loose(places), Sheet(["a", "c"], []), "c", "left")
        self.yes(Loose(places), Sheet(["a", "b", "c"], []), "c", "left")
        self.no(Loose(places), Sheet(["a", "b", "c"], [At("c", "left", 1)]), "c", "left")
        self.no(Loose(places), Sheet(["a", "b", "c"], fine().sayings() + [At("c", "left", 0)]), "c", "left")

    def test_the_field_as_it_stands(self):
        answer = Loose(FINE)
        answer.places["c"] = box(0, 1, 8, 4)
        self.yes(answer, fine(), "c", "top")
        answer.places["a"] = box(4, 0, 8, 4)
        self.no(answer, fine(), "c", "top")


class OfFollows(Base):
    def test_numbers_that_show_it(self):
        self.yes(Follows([1, 0, 0, 0], 1), fine(), At("a", "left", 3))
        self.yes(Follows([1, 1, 1, 2], 1), fine(), At("b", "left", 13))
        self.yes(Follows([3, 3, 3, 6], 3), fine(), At("b", "left", 13))
        self.yes(Follows([0, -1, 0, 0], 1), fine(), Beside("a", "left", "b", 2))

    def test_so_many_times(self):
        sheet = Sheet(["a", "b", "c"], [Alike("a", "wide", "b", 2), Alike("a", "wide", "c", 6)])
        self.yes(Follows([-1, 1], 2), sheet, Alike("b", "wide", "c", 3))
        for wrong in (0, -2, 1, 3, 4, True, None, "2", (2,)):
            self.no(Follows([-1, 1], wrong), sheet, Alike("b", "wide", "c", 3))
        self.no(Follows([1, -1], -2), sheet, Alike("b", "wide", "c", 3))
        self.no(Follows([0, 0], 0), sheet, Alike("b", "wide", "c", 3))

    def test_the_number_counts_too(self):
        self.no(Follows([1, 0, 0, 0], 1), fine(), At("a", "left", 4))
        self.no(Follows([0, 1, 0, 0], 1), fine(), Beside("b", "right", "a", 3))
        self.no(Follows([0, 1, 0, 0], 1), fine(), Beside("b", "right", "a", -2))

    def test_numbers_that_do_not(self):
        for wrong in ([0, 0, 0, 0], [2, 0, 0, 0], [-1, 0, 0, 0], [1, 0, 0, 1], [1, 0, 0], [1, 0, 0, 0, 0], []):
            self.no(Follows(wrong, 1), fine(), At("a", "left", 3))

    def test_what_is_no_list_of_numbers(self):
        for wrong in others() + [(1, 0, 0, 0), [True, 0, 0, 0], [1, False, 0, 0], [1, 0, 0, "0"]]:
            self.no(Follows(wrong, 1), fine(), At("a", "left", 3))
        self.no(Follows([1, 0, 0, 0], True), fine(), At("a", "left", 3))

    def test_other_sayings_and_sheets(self):
        answer = Follows([1, 0, 0, 0], 1)
        for saying in (At("a", "top", 3), At("b", "left", 3), Beside("b", "right", "a", 2),
                       Amid("c", "down", "a", "b")):
            self.no(answer, fine(), saying)
        self.no(answer, clashing(), At("a", "left", 3))
        self.no(answer, Sheet(["a"], []), At("a", "left", 3))
        self.no(answer, Sheet(["a", "b", "c"], fine().sayings()[::-1]), At("a", "left", 3))
        both = Sheet(["a"], [At("a", "left", 3), At("a", "top", 1), At("a", "top", 2)])
        self.no(Follows([1, 0, 0], 1), both, At("a", "left", 3))

    def test_nothing_said_shows_nothing(self):
        self.no(Follows([], 1), Sheet(["a"], []), At("a", "left", 0))

    def test_the_fields_as_they_stand(self):
        answer = Follows([1, 0, 0, 0], 2)
        self.no(answer, fine(), At("a", "left", 3))
        answer.times = 1
        self.yes(answer, fine(), At("a", "left", 3))
        answer.numbers.append(0)
        self.no(answer, fine(), At("a", "left", 3))


class OfBreaks(Base):
    def test_places_that_show_it(self):
        self.yes(Breaks(FINE), fine(), At("a", "left", 4))
        self.yes(Breaks(turned(FINE)), fine(), At("a", "left", 4))
        self.yes(Breaks(FINE), fine(), At("c", "left", 1))
        self.yes(Breaks(changed(FINE, "c", "left", (7, 3))), fine(), At("c", "left", 0))

    def test_places_that_keep_the_saying(self):
        self.no(Breaks(FINE), fine(), At("a", "left", 3))
        self.no(Breaks(FINE), fine(), At("c", "left", 0))

    def test_places_that_break_the_sheet(self):
        for name, part in (("a", "left"), ("a", "wide"), ("b", "left"), ("b", "wide")):
            self.no(Breaks(changed(FINE, name, part, (1, 2))), fine(), At("c", "left", 1))

    def test_no_places_of_its_boxes(self):
        for wrong in wrong_places():
            self.no(Breaks(wrong), fine(), At("a", "left", 4))
            self.no(Breaks(wrong), fine(), At("c", "wide", 1))

    def test_other_sheets(self):
        self.no(Breaks(FINE), clashing(), At("a", "left", 4))
        self.no(Breaks(FINE), Sheet(["a", "b"], []), At("a", "left", 4))
        self.no(Breaks(FINE), Sheet(["a", "b", "c", "d"], []), At("a", "left", 4))
        self.no(Breaks(FINE), Sheet(["a", "b", "c"], [At("c", "top", 1)]), At("a", "left", 4))
        self.yes(Breaks(FINE), Sheet(["c", "b", "a"], []), At("a", "left", 4))

    def test_the_field_as_it_stands(self):
        answer = Breaks(FINE)
        answer.places = changed(FINE, "c", "top", (1, 1))
        self.yes(answer, fine(), At("c", "top", 0))
        answer.places["c"] = box(0, 0, 8, 4)
        self.no(answer, fine(), At("c", "top", 0))


class Whole(Base):
    def test_what_is_no_sheet_shows_nothing(self):
        for wrong in others(Sheet):
            self.no(Kept(FINE), wrong)
            self.no(Clash([1, 0, -1, 0, -3]), wrong)
            self.no(Known([1, 0, 0, 0], 1, (3, 1)), wrong, "a", "left")
            self.no(Loose(changed(FINE, "c", "left", (1, 1))), wrong, "c", "left")
            self.no(Follows([1, 0, 0, 0], 1), wrong, At("a", "left", 3))
            self.no(Breaks(FINE), wrong, At("a", "left", 4))

    def test_no_part_and_no_saying_show_nothing(self):
        for wrong in others(str) + ["d", "right", "A"]:
            self.no(Known([1, 0, 0, 0], 1, (3, 1)), fine(), wrong, "left")
            self.no(Known([1, 0, 0, 0], 1, (3, 1)), fine(), "a", wrong)
            self.no(Loose(changed(FINE, "c", "left", (1, 1))), fine(), wrong, "left")
            self.no(Loose(changed(FINE, "c", "left", (1, 1))), fine(), "c", wrong)
        for wrong in others() + [At("d", "left", 3), Amid("a", "down", "b", "d")]:
            self.no(Follows([1, 0, 0, 0], 1), fine(), wrong)
            self.no(Breaks(FINE), fine(), wrong)

    def test_what_is_compared_with_is_as_the_rest_rule_tells(self):
        self.assertEqual(rest_places(fine().names(), fine().sayings()), FINE)

    def test_shows_changes_nothing(self):
        sheet, saying = fine(), At("a", "left", 4)
        adds = [one.adds() for one in sheet.sayings()]
        for answer, asked in ((Kept(FINE), [sheet]), (Clash([1, 0, -1, 0]), [sheet]),
                              (Known([1, 0, 0, 0], 1, (3, 1)), [sheet, "a", "left"]),
                              (Loose(FINE), [sheet, "c", "left"]),
                              (Follows([1, 0, 0, 0], 1), [sheet, saying]), (Breaks(FINE), [sheet, saying])):
            before = str(vars(answer))
            first = answer.shows(*asked)
            self.assertIs(answer.shows(*asked), first)
            self.assertEqual(str(vars(answer)), before)
        self.assertEqual([one.adds() for one in sheet.sayings()], adds)
        self.assertEqual(sheet.names(), ["a", "b", "c"])


if __name__ == "__main__":
    unittest.main()
