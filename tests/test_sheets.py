"""wheresay.sheets: point 2 of sheets, and point 1 where it speaks of them."""

import unittest

from tests.helper import others, shape
from wheresay.errors import BadSheet
from wheresay.sayings import Alike, Amid, At, Beside, Saying
from wheresay.sheets import Sheet, put, taken

SIX = ["f", "abcdefgh", "c", "d", "e", "b"]


def some(many):
    """So many unlike sayings of a, b and c, of each sort in turn."""
    sorts = [
        lambda at: At("a", "left", at),
        lambda at: Beside("b", "right", "a", at),
        lambda at: Alike("b", "wide", "c", at % 9 + 1),
        lambda at: Amid("c", "down", "a", "b"),
    ]
    return [sorts[at % 4](at) for at in range(many)]


def shapes(sayings):
    return [shape(saying) for saying in sayings]


class Told(unittest.TestCase):
    def test_names_in_their_turn(self):
        for many in range(1, 7):
            self.assertEqual(Sheet(SIX[:many], []).names(), SIX[:many])

    def test_sayings_in_their_turn(self):
        for many in range(17):
            sheet = Sheet(["c", "a", "b"], some(many))
            self.assertEqual(shapes(sheet.sayings()), shapes(some(many)))
        backward = list(reversed(some(16)))
        self.assertEqual(shapes(Sheet(["a", "b", "c"], backward).sayings()), shapes(backward))

    def test_lists_are_told(self):
        sheet = Sheet(["a"], [])
        self.assertIs(sheet.names().__class__, list)
        self.assertIs(sheet.sayings().__class__, list)

    def test_one_saying_twice(self):
        saying = At("a", "left", 3)
        self.assertEqual(shapes(Sheet(["a"], [saying, saying]).sayings()), shapes([saying, saying]))

    def test_arguments_by_name(self):
        sheet = Sheet(names=["a"], sayings=[])
        saying = At("a", "left", 3)
        self.assertEqual(shapes(put(sheet=sheet, at=0, saying=saying).sayings()), shapes([saying]))
        self.assertEqual(taken(sheet=put(sheet, 0, saying), at=0).sayings(), [])


class Refused(unittest.TestCase):
    def refused(self, asked, *arguments):
        with self.assertRaises(BadSheet) as caught:
            asked(*arguments)
        self.assertIs(caught.exception.__class__, BadSheet)

    def test_names_that_are_no_list(self):
        for wrong in others(list) + ["a", ("a",), {"a": 1}, {"a"}, b"a"]:
            self.refused(Sheet, wrong, [])

    def test_too_few_and_too_many_names(self):
        self.refused(Sheet, [], [])
        self.refused(Sheet, SIX + ["g"], [])

    def test_names_that_are_none(self):
        for wrong in others(str) + ["", "abcdefghi", "A", "a1", "a b", "a_", "-", "a\n", "a" * 5000]:
            self.refused(Sheet, [wrong], [])
            self.refused(Sheet, ["a", wrong, "b"], [])
            self.refused(Sheet, ["a", "b", wrong], [])

    def test_names_told_twice(self):
        self.refused(Sheet, ["a", "a"], [])
        self.refused(Sheet, ["a", "b", "c", "a"], [])

    def test_sayings_that_are_no_list(self):
        saying = At("a", "left", 3)
        for wrong in others(list) + [saying, (saying,), {saying: 1}, {0: saying}]:
            self.refused(Sheet, ["a"], wrong)

    def test_too_many_sayings(self):
        self.assertEqual(len(Sheet(["a", "b", "c"], some(16)).sayings()), 16)
        self.refused(Sheet, ["a", "b", "c"], some(17))

    def wrong_sayings(self):
        """Of sheets of a and b: no saying, or one of a name that isn't there."""
        return others(Saying) + [
            At, Sheet(["a"], []), [At("a", "left", 3)], At("a", "left", 3).adds(), Saying(),
            At("c", "left", 3), Beside("a", "left", "c"), Beside("c", "left", "a"),
            Alike("a", "wide", "c"), Alike("c", "wide", "a"),
            Amid("c", "down", "a", "b"), Amid("a", "down", "c", "b"), Amid("a", "down", "b", "c"),
        ]

    def test_sayings_that_are_none_or_of_other_names(self):
        for wrong in self.wrong_sayings():
            self.refused(Sheet, ["a", "b"], [wrong])
            self.refused(Sheet, ["a", "b"], [At("a", "left", 3), wrong, At("b", "left", 3)])

    def test_put_no_saying_of_its_names(self):
        for wrong in self.wrong_sayings():
            self.refused(put, Sheet(["a", "b"], []), 0, wrong)
            self.refused(put, Sheet(["a", "b"], [At("a", "left", 3)]), 1, wrong)

    def test_no_sheet(self):
        saying = At("a", "left", 3)
        for wrong in others(Sheet) + [Sheet, saying, (["a"], [])]:
            self.refused(put, wrong, 0, saying)
            self.refused(taken, wrong, 0)

    def test_no_place(self):
        saying = At("a", "left", 3)
        for many in range(17):
            sheet = Sheet(["a", "b", "c"], some(many))
            for wrong in others(int) + [-1, many + 1, -many - 1, 10 ** 5000, -10 ** 5000]:
                self.refused(put, sheet, wrong, saying)
                self.refused(taken, sheet, wrong)
            self.refused(taken, sheet, many)

    def test_put_too_many(self):
        sheet = Sheet(["a", "b", "c"], some(16))
        for at in range(17):
            self.refused(put, sheet, at, At("a", "left", 3))


class Changed(unittest.TestCase):
    def test_put_at_each_place(self):
        saying = At("a", "high", 77)
        for many in range(16):
            sheet = Sheet(["c", "a", "b"], some(many))
            for at in range(many + 1):
                told = put(sheet, at, saying)
                wanted = some(many)
                wanted.insert(at, saying)
                self.assertIs(told.__class__, Sheet)
                self.assertIsNot(told, sheet)
                self.assertEqual(told.names(), ["c", "a", "b"])
                self.assertEqual(shapes(told.sayings()), shapes(wanted))
                self.assertEqual(shapes(sheet.sayings()), shapes(some(many)))

    def test_taken_at_each_place(self):
        for many in range(1, 17):
            sheet = Sheet(["c", "a", "b"], some(many))
            for at in range(many):
                told = taken(sheet, at)
                wanted = some(many)
                del wanted[at]
                self.assertIs(told.__class__, Sheet)
                self.assertIsNot(told, sheet)
                self.assertEqual(told.names(), ["c", "a", "b"])
                self.assertEqual(shapes(told.sayings()), shapes(wanted))
                self.assertEqual(shapes(sheet.sayings()), shapes(some(many)))

    def test_taken_makes_room_again(self):
        sheet = Sheet(["a", "b", "c"], some(16))
        self.assertEqual(shapes(put(taken(sheet, 15), 15, some(16)[15]).sayings()), shapes(some(16)))


class Own(unittest.TestCase):
    def test_lists_handed_in_are_not_kept(self):
        names, sayings = ["a", "b", "c"], some(5)
        sheet = Sheet(names, sayings)
        names[0] = "z"
        names.append("d")
        sayings.clear()
        self.assertEqual(sheet.names(), ["a", "b", "c"])
        self.assertEqual(shapes(sheet.sayings()), shapes(some(5)))

    def test_lists_handed_in_are_not_changed(self):
        names, sayings = ["c", "a", "b"], some(5)
        before = list(sayings)
        put(Sheet(names, sayings), 2, some(1)[0])
        taken(Sheet(names, sayings), 2)
        self.assertEqual(names, ["c", "a", "b"])
        self.assertEqual(sayings, before)

    def test_lists_told_are_the_askers_own(self):
        sheet = Sheet(["a", "b", "c"], some(5))
        further = put(sheet, 5, some(6)[5])
        fewer = taken(sheet, 4)
        for one in (sheet, further, fewer):
            one.names().clear()
            one.sayings().reverse()
            one.sayings().clear()
        for one, many in ((sheet, 5), (further, 6), (fewer, 4)):
            self.assertEqual(one.names(), ["a", "b", "c"])
            self.assertEqual(shapes(one.sayings()), shapes(some(many)))

    def test_dicts_told_by_sayings_are_the_askers_own(self):
        sheet = Sheet(["a", "b", "c"], some(4))
        for saying in sheet.sayings():
            saying.adds()[0].clear()
            saying.names().clear()
        self.assertEqual(shapes(sheet.sayings()), shapes(some(4)))


if __name__ == "__main__":
    unittest.main()
