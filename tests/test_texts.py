"""wheresay.texts: point 10, and point 1 where it speaks of it."""

import unittest
from random import Random

from tests.helper import PARTS, any_saying, others, shape
from wheresay.errors import BadRows, BadSheet
from wheresay.sayings import Alike, Amid, At, Beside
from wheresay.sheets import Sheet
from wheresay.texts import read, written

SIDES = ("right", "left", "below", "above")
# Words of the rows, which are names, too.
WORDS = ("box", "left", "of", "by", "amid", "across", "as", "times", "wide", "right", "top", "down", "below", "above")


def shapes(sheet):
    return sheet.names(), [shape(saying) for saying in sheet.sayings()]


def fields(saying):
    return {**vars(saying), "sort": saying.__class__}


class Written(unittest.TestCase):
    def written(self, sayings, *rows):
        """The rows of sayings of a, b and c, and the very same sayings read back."""
        sheet = Sheet(["a", "b", "c"], sayings)
        text = "\n".join(["box a", "box b", "box c", *rows])
        self.assertEqual(written(sheet), text)
        back = read(text)
        self.assertIs(back.__class__, Sheet)
        self.assertEqual(back.names(), ["a", "b", "c"])
        self.assertEqual([fields(one) for one in back.sayings()], [fields(one) for one in sayings])

    def test_the_rows_of_the_document(self):
        self.written([At("a", "left", 3), Beside("a", "right", "b", -2), Alike("a", "wide", "b", 2),
                      Amid("a", "across", "b", "c"), Amid("a", "down", "b", "c")],
                     "a left 3", "a right of b by -2", "a wide as b times 2", "a amid b c across", "a amid b c down")

    def test_each_part(self):
        for part in PARTS:
            self.written([At("b", part, 7)], f"b {part} 7")
            self.written([Alike("b", part, "a", 9)], f"b {part} as a times 9")

    def test_each_side(self):
        for side in SIDES:
            self.written([Beside("c", side, "a", 12)], f"c {side} of a by 12")

    def test_what_is_left_out_is_written(self):
        self.written([Beside("a", "left", "b"), Alike("a", "top", "b")], "a left of b by 0", "a top as b times 1")

    def test_numbers(self):
        for number in (-1000, -999, -100, -10, -1, 0, 1, 9, 10, 99, 100, 101, 999, 1000):
            self.written([At("a", "top", number)], f"a top {number}")
            self.written([Beside("a", "above", "b", number)], f"a above of b by {number}")
        for times in range(1, 10):
            self.written([Alike("a", "high", "b", times)], f"a high as b times {times}")

    def test_names_in_their_turn(self):
        self.written([Amid("c", "down", "b", "a"), Beside("b", "below", "c", 1)],
                     "c amid b a down", "b below of c by 1")
        self.assertEqual(written(Sheet(["b", "abcdefgh", "a"], [])), "box b\nbox abcdefgh\nbox a")

    def test_without_sayings(self):
        for names in (["a"], ["f", "b", "a", "e", "d", "c"]):
            text = "\n".join([f"box {name}" for name in names])
            self.assertEqual(written(Sheet(names, [])), text)
            self.assertEqual(shapes(read(text)), (names, []))

    def test_sayings_in_their_turn_and_twice(self):
        self.written([At("b", "top", 1), At("a", "top", 2), At("b", "top", 1)], "b top 1", "a top 2", "b top 1")

    def test_names_that_are_words_of_such_rows(self):
        for name in WORDS:
            other, third = [word for word in ("of", "amid", "box") if word != name][:2]
            sayings = [
                At(name, "left", 3), Beside(name, "left", other, 0), Beside(other, "right", name, -1),
                Alike(name, "wide", other, 2), Alike(other, "top", name), Amid(name, "across", other, third),
                Amid(third, "down", name, other)]
            text = "\n".join([
                f"box {name}", f"box {other}", f"box {third}", f"{name} left 3", f"{name} left of {other} by 0",
                f"{other} right of {name} by -1", f"{name} wide as {other} times 2", f"{other} top as {name} times 1",
                f"{name} amid {other} {third} across", f"{third} amid {name} {other} down"])
            self.assertEqual(written(Sheet([name, other, third], sayings)), text)
            self.assertEqual([fields(one) for one in read(text).sayings()], [fields(one) for one in sayings])
            self.assertEqual(read(text).names(), [name, other, third])
        self.assertEqual(read("box box\nbox left 3").sayings()[0].adds(), ({("box", "left"): 1}, 3))

    def test_sheets_that_cannot_be_kept(self):
        self.written([At("a", "top", 1), At("a", "top", 2)], "a top 1", "a top 2")

    def test_six_boxes_and_sixteen_sayings(self):
        names = ["f", "b", "a", "e", "d", "c"]
        sheet = Sheet(names, [At("a", "left", number) for number in range(16)])
        rows = written(sheet).split("\n")
        self.assertEqual(len(rows), 22)
        self.assertEqual(shapes(read("\n".join(rows))), shapes(sheet))

    def test_many_sheets(self):
        rng = Random("texts")
        for _ in range(300):
            names = rng.sample([*WORDS, "a", "abcdefgh", "z"], rng.randint(1, 6))
            sayings = [any_saying(rng, names) for _ in range(rng.randint(0, 16))]
            sheet = Sheet(names, sayings)
            text = written(sheet)
            self.assertIs(text.__class__, str)
            back = read(text)
            self.assertEqual(back.names(), names)
            self.assertEqual([fields(one) for one in back.sayings()], [fields(one) for one in sayings])
            self.assertEqual(written(back), text)


class Refused(unittest.TestCase):
    HEAD = ["box a", "box b", "box c"]

    def refused(self, text, row):
        with self.subTest(text=text), self.assertRaises(BadRows) as caught:
            read(text)
        self.assertIs(caught.exception.__class__, BadRows)
        self.assertEqual(caught.exception.row, row)
        self.assertIs(caught.exception.row.__class__, int)

    def wrong_row(self, row):
        """The row is none, wherever it stands behind the boxes."""
        self.refused("\n".join(self.HEAD + [row]), 3)
        self.refused("\n".join(self.HEAD + ["a left 3", "b top 1", row, "c top 1"]), 5)
        self.refused("\n".join(self.HEAD + ["a left 3", row, row, ""]), 4)

    def test_what_is_no_text(self):
        for wrong in others(str) + [b"box a", ["box a"], ("box a",)]:
            self.refused(wrong, 0)

    def test_an_empty_text(self):
        self.refused("", 0)
        self.refused(" ", 0)
        self.refused("\n", 0)
        self.refused("\nbox a", 0)

    def test_empty_rows_and_a_line_end_at_the_end(self):
        self.refused("box a\n", 1)
        self.refused("box a\n\n", 1)
        self.refused("box a\n\nbox b", 1)
        self.refused("box a\na left 3\n", 2)
        self.refused("box a\na left 3\n\na top 3", 2)
        self.wrong_row("")

    def test_other_line_ends(self):
        self.refused("box a\r\na left 3", 0)
        self.refused("box a\ra left 3", 0)
        self.refused("box a\na left 3\r\na left 4", 1)
        self.refused("box a\x0bbox b", 0)
        self.refused("box a\x0cbox b", 0)
        self.refused("box a\x1ebox b", 0)

    def test_rows_of_boxes(self):
        for wrong in ("box", "box ", "box  b", "box b ", " box b", "box\tb", "boxb", "Box b", "box B", "box b1",
                      "box abcdefghi", "box b c", "box b,", "bo b", "boxes b", "a", "b box", "box 3", "box b\t",
                      "box -"):
            self.refused(wrong, 0)
            self.refused(f"box a\n{wrong}", 1)
            self.refused(f"box a\n{wrong}\nbox c", 1)

    def test_a_box_twice(self):
        self.refused("box a\nbox a", 1)
        self.refused("box a\nbox b\nbox c\nbox a\nbox b", 3)

    def test_a_seventh_box(self):
        text = "\n".join([f"box {name}" for name in "abcdefg"])
        self.refused(text, 6)
        self.refused(text + "\na left 3", 6)

    def test_a_box_behind_a_saying(self):
        self.refused("box a\na left 3\nbox b", 2)
        self.refused("box a\na left 3\na top 3\nbox b\na wide 3", 3)
        self.refused("box a\na left 3\nbox a", 2)

    def test_a_seventeenth_saying(self):
        rows = ["box a"] + [f"a left {number}" for number in range(16)]
        self.assertEqual(len(read("\n".join(rows)).sayings()), 16)
        self.refused("\n".join(rows + ["a left 3"]), 17)
        self.refused("\n".join(rows + ["a left 3", "a left 4"]), 17)

    def test_names_that_are_no_boxes(self):
        for wrong in ("d left 3", "d right of a by 0", "a right of d by 0", "d wide as a times 1",
                      "a wide as d times 1", "d amid a b down", "a amid d b down", "a amid b d down"):
            self.wrong_row(wrong)
        self.refused("a left 3", 0)
        self.refused("a left 3\nbox a", 0)
        self.refused("box a\nb left 3\nbox b", 1)
        self.refused("box a\na left of b by 3\nbox b", 1)

    def test_names_that_are_not_unlike(self):
        for wrong in ("a right of a by 0", "a wide as a times 1", "a amid a b down", "a amid b a down",
                      "a amid b b down", "a amid a a down"):
            self.wrong_row(wrong)

    def test_blanks(self):
        for right in ("a left 3", "a right of b by -2", "a wide as b times 2", "a amid b c across"):
            words = right.split(" ")
            self.wrong_row(f" {right}")
            self.wrong_row(f"{right} ")
            self.wrong_row(right + "\t")
            for at in range(1, len(words)):
                ahead, behind = " ".join(words[:at]), " ".join(words[at:])
                for between in ("  ", "", "\t", " \t", "-", ",", "   "):
                    self.wrong_row(ahead + between + behind)

    def test_words_left_out_put_in_or_another(self):
        for right in ("a left 3", "a right of b by -2", "a wide as b times 2", "a amid b c across"):
            words = right.split(" ")
            for at in range(len(words)):
                self.wrong_row(" ".join(words[:at] + words[at + 1:]))
                self.wrong_row(" ".join(words[:at] + [words[at]] + words[at:]))
                for word in ("of", "x", "A", "amid", "7x", "?", words[at] + ".", words[at].upper() + "Z"):
                    if word != words[at]:
                        self.wrong_row(" ".join(words[:at] + [word] + words[at + 1:]))

    def test_words_of_another_sort_of_row(self):
        for wrong in ("a across 3", "a right 3", "a width 3", "a Left 3", "a left = 3", "a top of b by 3",
                      "a wide of b by 3", "a across of b by 3", "a right as b times 2", "a right as b by 2",
                      "a wide as b by 2", "a wide of b times 2", "a left of b times 2", "a left as b by 2",
                      "a amid b c left", "a amid b c", "a amid b c wide", "a amid b and c down", "a of b by 3", "a",
                      "a left of b", "a wide as b", "a across b c amid", "a beside b c down", "a left by b of 3"):
            self.wrong_row(wrong)

    def test_numbers_that_are_none(self):
        wrong_numbers = (
            "-0", "+1", "+0", "00", "01", "007", "-01", "-00", "1001", "-1001", "9999", "10000", "0x1", "1_0", "1.0",
            "1e1", "--1", "-", "", "1-", "- 1", "one", "a", "1" * 5000, "-" + "1" * 5000, "0" * 5000, "3,", "3;", "(3)")
        for wrong in wrong_numbers:
            self.wrong_row(f"a left {wrong}")
            self.wrong_row(f"a left of b by {wrong}")
            self.wrong_row(f"a left as b times {wrong}")
        for wrong in ("0", "10", "-1", "-2", "1000"):
            self.wrong_row(f"a left as b times {wrong}")

    def test_the_first_row_that_is_none(self):
        self.refused("box a\nbox a\nno row\n", 1)
        self.refused("no row\nbox a\nbox a", 0)
        self.refused("box a\nbox b\na left 3\na left of a by 1\nb left 03", 3)
        self.refused("box a\na left 3\na left 1001\nbox b\n", 2)

    def test_what_is_no_sheet_to_write(self):
        for wrong in others(Sheet) + [Sheet, (["a"], []), At("a", "left", 3), "box a"]:
            with self.assertRaises(BadSheet) as caught:
                written(wrong)
            self.assertIs(caught.exception.__class__, BadSheet)


class Own(unittest.TestCase):
    def test_sheets_stay_as_they_are(self):
        sheet = Sheet(["a", "b"], [At("a", "left", 3), Beside("a", "left", "b")])
        before = shapes(sheet)
        written(sheet)
        self.assertEqual(shapes(sheet), before)

    def test_what_is_read_is_new(self):
        text = "box a\nbox b\na left 3\na left of b by 0"
        first, second = read(text), read(text)
        self.assertIsNot(first, second)
        first.names().clear()
        first.sayings().clear()
        self.assertEqual(shapes(first), shapes(second))

    def test_arguments_by_name(self):
        self.assertEqual(written(sheet=read(text="box a")), "box a")


if __name__ == "__main__":
    unittest.main()
