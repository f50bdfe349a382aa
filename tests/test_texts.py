import random
import unittest

from floodtree.errors import NoFloor
from floodtree.texts import picture, read_floor
from tests.helper import (
    CHESS, COMB, EDGES, NESTED, REACHES, TOP, cells_of, chance_floors, floors_to_walk, height_at, heights_in_bounds,
    heights_to_ask, large_floors, picture_by_walking, refused, some, text_of,
)

NO_HEIGHTS = [
    "", "+1", "-1", "-0", "+0", "a", "1a", "a1", "1.0", "1.", ".5", "1_0", "_1", "1_", "0x1", "1e3", "1,2", "1;", "#",
    "~", "/", ":", "!", "'1'", "00", "01", "000", "007", "0" * 19, "0" * 20, "0" + str(TOP), str(TOP + 1), str(TOP + 2),
    "2" + "0" * 18, "9" * 19, "1" + "0" * 19, "1" * 20, "9" * 20, "9" * 5000,
]
NO_LINES = [" 1 2 3", "1 2 3 ", "1  2 3", "1 2  3", "  1 2 3", "1 2 3  ", "", " ", "  ", "   ", "1 2 3 x", "x"]
OTHER_WIDTHS = ["1", "1 2", "1 2 3 4", " ".join(["5"] * 12), " ".join(["5"] * 13)]
GOOD = "4 0 7"


def with_line(many, number, line):
    lines = [GOOD] * many
    lines[number] = line
    return "\n".join(lines)


class ReadFloorTest(unittest.TestCase):
    def test_ordinary_texts(self):
        self.assertEqual(read_floor("1 3 0 2 1"), [[1, 3, 0, 2, 1]])
        self.assertEqual(read_floor("1\n3\n0"), [[1], [3], [0]])
        self.assertEqual(read_floor("10 20 30\n40 50 60"), [[10, 20, 30], [40, 50, 60]])
        self.assertEqual(read_floor("12 3\n4 56\n700 8"), [[12, 3], [4, 56], [700, 8]])

    def test_the_least_and_the_greatest_height(self):
        self.assertEqual(read_floor("0"), [[0]])
        self.assertEqual(read_floor("1000000000000000000"), [[TOP]])
        self.assertEqual(read_floor(f"{TOP} 0\n0 {TOP - 1}"), [[TOP, 0], [0, TOP - 1]])
        self.assertEqual(read_floor("9" * 18), [[10 ** 18 - 1]])

    def test_floors_of_all_sizes_are_read_back(self):
        chance = random.Random(61)
        heights = [0, 1, 9, 10, 11, 100, 909, 10 ** 9, TOP - 1, TOP]
        for rows in range(1, 13):
            for columns in range(1, 13):
                floor = [[chance.choice(heights) for column in range(columns)] for row in range(rows)]
                self.assertEqual(read_floor(text_of(floor)), floor)

    def test_other_floors_are_read_back(self):
        for floor in EDGES + large_floors() + chance_floors(62, 40, 12, 12):
            self.assertEqual(read_floor(text_of(floor)), floor)

    def test_twelve_words_and_twelve_lines(self):
        line = " ".join(["5"] * 12)
        self.assertEqual(read_floor(line), [[5] * 12])
        self.assertEqual(read_floor("\n".join(["5"] * 12)), [[5]] * 12)
        self.assertEqual(read_floor("\n".join([line] * 12)), [[5] * 12] * 12)

    def test_kinds(self):
        for floor in (read_floor("0"), read_floor(text_of(COMB))):
            self.assertEqual((type(floor), {type(row) for row in floor}), (list, {list}))
            self.assertEqual({type(height) for row in floor for height in row}, {int})

    def test_no_two_rows_are_one_list(self):
        floor = read_floor("1 2\n1 2\n1 2")
        floor[0][0] = 77
        self.assertEqual(floor, [[77, 2], [1, 2], [1, 2]])

    def test_no_two_floors_share_a_row(self):
        one, other = read_floor(GOOD), read_floor(GOOD)
        one[0].append(5)
        one.append([6])
        self.assertEqual((other, read_floor(GOOD)), ([[4, 0, 7]], [[4, 0, 7]]))


class NoFloorTest(unittest.TestCase):
    def check(self, text, line):
        error = refused(self, NoFloor, read_floor, text)
        self.assertEqual((type(error.line), error.line), (int, line), text[:200])

    def test_a_word_that_is_no_height(self):
        for word in NO_HEIGHTS:
            for line in (f"{word} 2 3", f"1 {word} 3", f"1 2 {word}"):
                for many in (1, 2, 3, 7, 12):
                    for number in sorted({0, many // 2, many - 1}):
                        self.check(with_line(many, number, line), number)

    def test_a_word_that_is_no_height_by_itself(self):
        for word in NO_HEIGHTS:
            self.check(word, 0)
            self.check(f"{word}\n1", 0)
            self.check(f"1\n{word}\n1", 1)
            self.check(f"1\n{word}", 1)

    def test_blanks_too_many_and_empty_lines(self):
        for line in NO_LINES:
            for many in (1, 2, 3, 7, 12):
                for number in sorted({0, many // 2, many - 1}):
                    self.check(with_line(many, number, line), number)

    def test_an_empty_text(self):
        self.check("", 0)
        self.check(" ", 0)
        self.check("\n", 0)
        self.check("\n1", 0)
        self.check("\n\n\n", 0)

    def test_a_line_end_at_the_end(self):
        for many in range(1, 13):
            self.check("\n".join(["1 2"] * many) + "\n", many)
            self.check("\n".join(["1"] * many) + "\n", many)
        self.check("1 2\n\n", 1)

    def test_another_number_of_words_than_line_0_has(self):
        for line in OTHER_WIDTHS:
            for many in (2, 3, 7, 12):
                for number in sorted({1, many // 2, many - 1}):
                    self.check(with_line(many, number, line), number)
        self.check("1\n1 2", 1)
        self.check("1 2\n1", 1)
        self.check("1 2\n1 2\n1\n1", 2)

    def test_line_0_counts_and_not_the_line_ahead(self):
        self.check("1 2\n1 2 3\n1 2 3", 1)
        self.check("1 2 3\n1 2\n1 2", 1)

    def test_thirteen_words(self):
        for words in (13, 14, 200):
            line = " ".join(["5"] * words)
            self.check(line, 0)
            self.check("\n".join([line] * 3), 0)
            twelve = " ".join(["5"] * 12)
            self.check(f"{twelve}\n{line}\n{twelve}", 1)
            self.check(f"{twelve}\n{twelve}\n{line}", 2)

    def test_a_thirteenth_line(self):
        for many in (13, 14, 200):
            self.check("\n".join([GOOD] * many), 12)
            self.check("\n".join(["5"] * many), 12)
        for line in NO_LINES + OTHER_WIDTHS:
            self.check("\n".join([GOOD] * 12 + [line]), 12)
            self.check("\n".join([GOOD] * 13 + [line]), 12)

    def test_the_first_of_several(self):
        self.check("1 x\n1\n1 2", 0)
        self.check("1 2\n1\n1 x", 1)
        self.check("1 2\n1 x\n1", 1)
        self.check("1 2\n1 2\n1 01\n\n1 2 3", 2)
        self.check("\n".join([GOOD] * 5 + ["x"] + [GOOD] * 20), 5)
        self.check("\n".join([GOOD] * 11 + ["4 0", GOOD]), 11)
        self.check("\n".join([" ".join(["5"] * 13)] * 13), 0)
        self.check("1 2\n" + " ".join(["5"] * 13) + "\nx", 1)

    def test_a_text_of_the_greatest_length(self):
        self.check("9" * 10000, 0)
        self.check(" " * 10000, 0)
        self.check("\n" * 10000, 0)
        self.check("1\n" * 5000, 12)
        self.check("1 " * 5000, 0)

    def test_behind_a_refusal_texts_are_read_as_ever(self):
        self.check("1 2\n3", 1)
        self.assertEqual(read_floor("1 2\n3 4"), [[1, 2], [3, 4]])


def pits(many):
    """Twelve rows by twelve columns with so many single cells in water, the deeper the greater their number."""
    floor = [[900] * 12 for row in range(12)]
    for number in range(many):
        floor[number // 6 * 2][number % 6 * 2] = 500 - number
    return floor


class PictureTest(unittest.TestCase):
    def test_one_row(self):
        floor = [[1, 3, 0, 2, 1]]
        for reach in REACHES:
            self.assertEqual(picture(floor, reach, 0), ["##a##"])
            self.assertEqual(picture(floor, reach, 1), ["b#a#c"])
            self.assertEqual(picture(floor, reach, 2), ["b#aaa"])
            self.assertEqual(picture(floor, reach, 3), ["aaaaa"])
            self.assertEqual(picture(floor, reach, TOP), ["aaaaa"])

    def test_one_column(self):
        self.assertEqual(picture([[1], [3], [0], [2], [1]], 4, 1), ["b", "#", "a", "#", "c"])

    def test_by_both_reaches(self):
        floor = [[0, 5, 2], [5, 1, 5]]
        self.assertEqual(picture(floor, 4, 2), ["a#c", "#b#"])
        self.assertEqual(picture(floor, 8, 2), ["a#a", "#a#"])

    def test_the_earliest_cell_is_not_the_first_one_of_its_stretch(self):
        self.assertEqual(picture([[3, 9, 2, 2], [3, 9, 9, 9], [1, 9, 0, 9]], 4, 3), ["b#cc", "b###", "b#a#"])

    def test_alike_heights_go_by_number(self):
        self.assertEqual(picture([[4, 9, 4, 9, 4]], 4, 4), ["a#b#c"])
        self.assertEqual(picture([[4, 9, 4, 9, 3]], 4, 4), ["b#c#a"])

    def test_letters_are_given_out_anew_at_each_height(self):
        floor = [[0, 9, 5, 6, 4]]
        self.assertEqual(picture(floor, 4, 4), ["a###b"])
        self.assertEqual(picture(floor, 4, 5), ["a#c#b"])
        self.assertEqual(picture(floor, 4, 6), ["a#bbb"])

    def test_below_every_cell(self):
        self.assertEqual(picture([[5, 6], [7, 8], [9, 5]], 4, 4), ["##", "##", "##"])
        self.assertEqual(picture([[TOP]], 8, TOP - 1), ["#"])
        self.assertEqual(picture([[TOP]], 8, TOP), ["a"])

    def test_the_least_and_the_greatest_height(self):
        self.assertEqual(picture(COMB, 4, 0), ["a#b#c#d#e#f#"] * 12)
        self.assertEqual(picture(COMB, 8, TOP - 1), ["a#b#c#d#e#f#"] * 12)
        self.assertEqual(picture(COMB, 4, TOP), ["a" * 12] * 12)

    def test_lakes_within_lakes(self):
        self.assertEqual(picture(NESTED, 4, 2), ["#######", "#b#c###", "#######", "#d#a###", "#######"])
        self.assertEqual(picture(NESTED, 4, 6), ["#######", "#aaa#b#", "#a#a#b#", "#aaa#b#", "#######"])

    def test_just_twenty_six_stretches(self):
        rows = picture(pits(26), 4, 500)
        self.assertEqual(rows[0], "z#y#x#w#v#u#")
        self.assertEqual(rows[8], "b#a#########")
        self.assertNotIn("+", "".join(rows))

    def test_twenty_seven_stretches(self):
        rows = picture(pits(27), 8, 500)
        self.assertEqual(rows[0], "+#z#y#x#w#v#")
        self.assertEqual(rows[8], "c#b#a#######")
        self.assertEqual("".join(rows).count("+"), 1)

    def test_more_stretches(self):
        self.assertEqual(picture(pits(36), 4, 500)[::2], [
            "+#+#+#+#+#+#", "+#+#+#+#z#y#", "x#w#v#u#t#s#", "r#q#p#o#n#m#", "l#k#j#i#h#g#", "f#e#d#c#b#a#",
        ])
        rows = picture(CHESS, 4, 0)
        self.assertEqual(rows[:6], [
            "a#b#c#d#e#f#", "#g#h#i#j#k#l", "m#n#o#p#q#r#", "#s#t#u#v#w#x", "y#z#+#+#+#+#", "#+#+#+#+#+#+",
        ])
        self.assertEqual("".join(rows).count("+"), 46)

    def test_walked_cell_by_cell(self):
        for floor in floors_to_walk() + chance_floors(63, 10, 12, 12):
            for reach in REACHES:
                for height in some(heights_in_bounds(floor), 90):
                    told = picture(floor, reach, height)
                    self.assertEqual(told, picture_by_walking(floor, reach, height), (floor, reach, height))

    def test_large_floors_walked_cell_by_cell(self):
        for floor in large_floors() + [pits(25), pits(26), pits(27), pits(36)]:
            for reach in REACHES:
                for height in some(heights_in_bounds(floor), 40):
                    self.assertEqual(picture(floor, reach, height), picture_by_walking(floor, reach, height))

    def test_a_cell_is_higher_just_where_its_height_is_greater(self):
        for floor in EDGES:
            for height in heights_to_ask(floor):
                signs = "".join(picture(floor, 4, height))
                self.assertEqual(
                    [sign == "#" for sign in signs], [height_at(floor, cell) > height for cell in cells_of(floor)],
                )

    def test_kinds(self):
        for floor in (COMB, [[5]], [[1], [2]]):
            for height in (0, 1, TOP):
                told = picture(floor, 4, height)
                self.assertEqual((type(told), {type(row) for row in told}), (list, {str}))
                self.assertEqual([len(row) for row in told], [len(row) for row in floor])


if __name__ == "__main__":
    unittest.main()
