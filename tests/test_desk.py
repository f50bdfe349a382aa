import unittest

from floodtree.desk import Desk
from floodtree.errors import NoCell, NoFloor, NoRow
from tests.helper import (
    CHESS, COMB, EDGES, NESTED, REACHES, TOP, cells_of, chance_changes, chance_floors, height_at, heights_in_bounds,
    large_floors, levels_by_walking, passes_from, picture_by_walking, refused, some, text_of, tree_by_walking, walk_at,
    with_height,
)

CROSS = "9 1 9\n2 5 0\n9 3 9"
POOL = "9 9 9 9\n9 1 6 5\n9 9 9 9"
FLOORS = EDGES + chance_floors(71, 12, 4, 4)

NO_WORDS = [
    "", "lake", "Lakes", "LAKES", "passes", "levels", "counts", "drew", "get", "0", "1", "-", "ok", "#", "help", "_",
    "lakes\n", "\nlakes", "lakes;", "set_", "lakes\nlakes",
]
NO_NUMBERS = [
    "", "00", "01", "007", "0" * 19, "0" * 20, "+1", "-1", "-0", "+0", "1.0", "1.", "1_0", "_1", "0x1", "1e0", "a",
    "1a", "a1", "#", "~", "/", ":", "'1'", "1\n", "\n1", "\n", "None", "-", "1" * 20, "9" * 20, "9" * 5000,
    "1" + "0" * 19,
]
NO_HEIGHTS = NO_NUMBERS + [str(TOP + 1), str(TOP + 2), "2" + "0" * 18, "9" * 19]
NO_CELLS = ["9", "10", "12", "143", "144", "1000", str(TOP - 1), str(TOP), str(TOP + 1), "9" * 19]


def rows_to_ask(floor):
    """Each kind of row that changes nothing, for all its cells and heights."""
    cells = cells_of(floor)
    heights = heights_in_bounds(floor)
    rows = ["lakes"] + [f"level {cell}" for cell in cells]
    rows += [f"pass {one} {other}" for one in cells for other in cells]
    return rows + [f"count {height}" for height in heights] + [f"draw {height}" for height in heights]


def answers_of(desk, floor):
    return [desk.say(row) for row in rows_to_ask(floor)]


def lakes_in_words(tree):
    lakes = [["-" if part is None else str(part) for part in lake] for lake in tree]
    return "; ".join(" ".join(lake) for lake in lakes)


def drawn_by_walking(floor, reach, height):
    return "\n".join(picture_by_walking(floor, reach, height))


class WorkedRowsTest(unittest.TestCase):
    def test_lakes(self):
        self.assertEqual(Desk("9 8 1 2 0").say("lakes"), "4 - -; 2 3 4")
        self.assertEqual(Desk("1 3 0 2 1").say("lakes"), "2 - -; 0 1 2; 4 3 2")
        self.assertEqual(Desk(CROSS).say("lakes"), "5 - -; 1 4 5; 3 4 5; 7 4 5")
        self.assertEqual(Desk("1\n3\n0\n2\n1").say("lakes"), "2 - -; 0 1 2; 4 3 2")

    def test_one_lake(self):
        self.assertEqual(Desk("7").say("lakes"), "0 - -")
        self.assertEqual(Desk("3 2 1").say("lakes"), "2 - -")
        self.assertEqual(Desk(CROSS, 8).say("lakes"), "5 - -")
        self.assertEqual(Desk(f"{TOP}").say("lakes"), "0 - -")

    def test_pass(self):
        desk = Desk("1 3 0 2 1")
        self.assertEqual(desk.say("pass 0 4"), "1 3")
        self.assertEqual(desk.say("pass 4 0"), "1 3")
        self.assertEqual(desk.say("pass 2 4"), "3 2")
        self.assertEqual(desk.say("pass 2 3"), "3 2")
        self.assertEqual(desk.say("pass 3 3"), "3 2")
        self.assertEqual(desk.say("pass 0 0"), "0 1")
        self.assertEqual(Desk(CROSS).say("pass 3 1"), "4 5")
        self.assertEqual(Desk(CROSS, 8).say("pass 3 1"), "3 2")
        self.assertEqual(Desk(f"0 {TOP} 0").say("pass 0 2"), f"1 {TOP}")

    def test_level(self):
        desk = Desk(POOL)
        self.assertEqual([desk.say(f"level {cell}") for cell in (0, 5, 6, 7, 11)], ["9", "6", "6", "5", "9"])
        self.assertEqual(Desk("0").say("level 0"), "0")
        self.assertEqual(Desk(f"{TOP} 0").say("level 0"), str(TOP))
        self.assertEqual(Desk(CROSS.replace("1", "4")).say("level 4"), "5")
        leak = "9 9 0\n9 1 9\n9 9 9"
        self.assertEqual((Desk(leak).say("level 4"), Desk(leak, 8).say("level 4")), ("9", "1"))

    def test_count(self):
        desk = Desk("5 9 1 7 5")
        asked = (0, 1, 2, 4, 5, 6, 7, 8, 9, 10, TOP)
        self.assertEqual(" ".join(desk.say(f"count {height}") for height in asked), "0 1 1 1 3 3 2 2 1 1 1")
        self.assertEqual(Desk(text_of(CHESS)).say("count 0"), "72")
        self.assertEqual(Desk(text_of(CHESS), 8).say("count 0"), "1")

    def test_draw(self):
        desk = Desk(CROSS)
        self.assertEqual(desk.say("draw 0"), "###\n##a\n###")
        self.assertEqual(desk.say("draw 3"), "#b#\nc#a\n#d#")
        self.assertEqual(desk.say("draw 4"), "#b#\nc#a\n#d#")
        self.assertEqual(desk.say("draw 5"), "#a#\naaa\n#a#")
        self.assertEqual(desk.say(f"draw {TOP}"), "aaa\naaa\naaa")
        self.assertEqual(Desk(CROSS, 8).say("draw 3"), "#a#\na#a\n#a#")
        self.assertEqual(Desk("5 6").say("draw 4"), "##")
        self.assertEqual(Desk("5\n6").say("draw 5"), "a\n#")

    def test_set_and_each_kind_of_row_behind_it(self):
        desk = Desk(POOL)
        self.assertEqual(desk.say("set 7 8"), "ok")
        self.assertEqual(desk.say("level 5"), "8")
        self.assertEqual(desk.say("set 6 0"), "ok")
        self.assertEqual(desk.say("lakes"), "6 - -; 0 1 6")
        self.assertEqual(desk.say("pass 5 7"), "7 8")
        self.assertEqual(desk.say("count 7"), "1")
        self.assertEqual(desk.say("draw 1"), "####\n#aa#\n####")
        self.assertEqual(desk.say("set 0 0"), "ok")
        self.assertEqual(desk.say("lakes"), "0 - -; 6 1 0")
        self.assertEqual(desk.say("draw 0"), "a###\n##b#\n####")
        self.assertEqual(desk.say("count 0"), "2")

    def test_set_to_the_least_and_the_greatest_height(self):
        desk = Desk("5 5")
        self.assertEqual(desk.say(f"set 1 {TOP}"), "ok")
        self.assertEqual(desk.say("pass 1 1"), f"1 {TOP}")
        self.assertEqual(desk.say("set 1 0"), "ok")
        self.assertEqual(desk.say("pass 1 1"), "1 0")
        self.assertEqual(desk.say("set 1 0"), "ok")
        self.assertEqual(desk.say("draw 0"), "#a")

    def test_the_reach_left_out_is_four(self):
        for text in (CROSS, "0 5\n5 1", text_of(NESTED)):
            self.assertEqual(Desk(text).say("lakes"), Desk(text, 4).say("lakes"))
            self.assertNotEqual(Desk(text).say("lakes"), Desk(text, reach=8).say("lakes"))

    def test_the_reach_stays_behind_a_set(self):
        one, other = Desk("9 9\n9 9", 8), Desk("9 9\n9 9")
        for desk in (one, other):
            desk.say("set 0 1")
            desk.say("set 3 1")
        self.assertEqual([one.say(row) for row in ("draw 1", "count 1", "lakes")], ["a#\n#a", "1", "0 - -"])
        self.assertEqual([other.say(row) for row in ("draw 1", "count 1", "lakes")], ["a#\n#b", "2", "0 - -; 3 1 0"])

    def test_twelve_by_twelve(self):
        desk = Desk(text_of(COMB))
        self.assertEqual(desk.say("lakes"), "0 - -; 2 1 0; 4 3 0; 6 5 0; 8 7 0; 10 9 0")
        self.assertEqual(desk.say("pass 143 0"), f"143 {TOP}")
        self.assertEqual(desk.say("draw 1"), "\n".join(["a#b#c#d#e#f#"] * 12))
        self.assertEqual(desk.say("set 143 1"), "ok")
        self.assertEqual(desk.say("pass 143 142"), "143 1")

    def test_kinds(self):
        desk = Desk(CROSS)
        for row in ("lakes", "pass 0 8", "level 4", "count 3", "draw 3", "set 4 1"):
            self.assertIs(type(desk.say(row)), str)


class WalkedDeskTest(unittest.TestCase):
    def check_by_walking(self, desk, floor, reach):
        self.assertEqual(desk.say("lakes"), lakes_in_words(tree_by_walking(floor, reach)), (floor, reach))
        levels = levels_by_walking(floor, reach)
        for cell in cells_of(floor):
            self.assertEqual(desk.say(f"level {cell}"), str(levels[cell]), (floor, reach))
            for other, met in list(passes_from(floor, reach, cell).items())[::3]:
                self.assertEqual(desk.say(f"pass {cell} {other}"), f"{met} {height_at(floor, met)}", (floor, reach))
        for height in heights_in_bounds(floor):
            self.assertEqual(desk.say(f"count {height}"), str(len(walk_at(floor, reach, height))), (floor, reach))
            self.assertEqual(desk.say(f"draw {height}"), drawn_by_walking(floor, reach, height), (floor, reach))

    def test_each_kind_of_row(self):
        for floor in FLOORS:
            for reach in REACHES:
                self.check_by_walking(Desk(text_of(floor), reach), floor, reach)

    def test_each_kind_of_row_behind_rows_of_sets(self):
        for floor in FLOORS:
            for reach in REACHES:
                desk, now = Desk(text_of(floor), reach), floor
                for cell, height in chance_changes(72, floor, 3):
                    self.assertEqual(desk.say(f"set {cell} {height}"), "ok")
                    now = with_height(now, cell, height)
                    self.check_by_walking(desk, now, reach)

    def test_as_if_the_floor_had_been_so_from_the_beginning(self):
        for floor in FLOORS:
            for reach in REACHES:
                desk, now = Desk(text_of(floor), reach), floor
                for cell, height in chance_changes(73, floor, 20):
                    self.assertEqual(desk.say(f"set {cell} {height}"), "ok")
                    now = with_height(now, cell, height)
                self.assertEqual(answers_of(desk, now), answers_of(Desk(text_of(now), reach), now), (floor, reach))

    def test_large_floors(self):
        for floor in large_floors():
            for reach in REACHES:
                desk = Desk(text_of(floor), reach)
                for height in some(heights_in_bounds(floor), 20):
                    self.assertEqual(desk.say(f"count {height}"), str(len(walk_at(floor, reach, height))))
                    self.assertEqual(desk.say(f"draw {height}"), drawn_by_walking(floor, reach, height))
                levels = levels_by_walking(floor, reach)
                for cell in (0, 70, 143):
                    self.assertEqual(desk.say(f"level {cell}"), str(levels[cell]))


class RefusedRowsTest(unittest.TestCase):
    def setUp(self):
        self.floor = [[9, 1, 9], [2, 5, 0], [9, 3, 9]]
        self.desk = Desk(CROSS)
        self.ahead = answers_of(self.desk, self.floor)

    def tearDown(self):
        self.assertEqual(answers_of(self.desk, self.floor), self.ahead)

    def check(self, refusal, row):
        refused(self, refusal, self.desk.say, row)
        self.assertEqual(self.desk.say("lakes"), self.ahead[0])

    def test_an_unknown_word(self):
        for word in NO_WORDS:
            for row in (word, f"{word} 1", f"{word} 1 2"):
                self.check(NoRow, row)

    def test_a_blank_too_many(self):
        for row in ("lakes", "pass 0 1", "level 0", "count 0", "draw 0", "set 0 1"):
            self.check(NoRow, f" {row}")
            self.check(NoRow, f"{row} ")
            self.check(NoRow, f"  {row}")
            self.check(NoRow, f"{row}  ")
            for at in [place for place, sign in enumerate(row) if sign == " "]:
                self.check(NoRow, f"{row[:at]} {row[at:]}")
        for row in (" ", "  ", "   "):
            self.check(NoRow, row)

    def test_a_word_too_few_or_too_many(self):
        for row in ("lakes 0", "lakes 0 1", "pass", "pass 0", "pass 0 1 2", "level", "level 0 1", "count", "count 0 1",
                    "draw", "draw 0 1", "set", "set 0", "set 0 1 2", "lakes lakes", "set 4 1 1 1"):
            self.check(NoRow, row)

    def test_words_parted_otherwise(self):
        for row in ("level\n0", "pass 0\n1", "set 0\n1", "set\n0 1", "count\n0", "level0", "set 0,1", "lakes\n",
                    "level 0\n", "set 4 1\n", "\nset 4 1"):
            self.check(NoRow, row)

    def test_words_in_another_order(self):
        for row in ("0 level", "0 set 1", "1 2 pass"):
            self.check(NoRow, row)

    def test_no_numbers_for_cells(self):
        for word in NO_NUMBERS:
            for row in (f"pass {word} 1", f"pass 1 {word}", f"level {word}", f"set {word} 1"):
                self.check(NoRow, row)

    def test_no_heights(self):
        for word in NO_HEIGHTS:
            for row in (f"count {word}", f"draw {word}", f"set 4 {word}"):
                self.check(NoRow, row)

    def test_no_cells(self):
        for word in NO_CELLS:
            for row in (f"pass {word} 1", f"pass 1 {word}", f"pass {word} {word}", f"level {word}", f"set {word} 1",
                        f"set {word} 0", f"set {word} {TOP}"):
                self.check(NoCell, row)

    def test_a_row_with_both_faults_is_no_row(self):
        for cell in NO_CELLS:
            for height in NO_HEIGHTS:
                self.check(NoRow, f"set {cell} {height}")
            for word in NO_NUMBERS:
                self.check(NoRow, f"pass {cell} {word}")
                self.check(NoRow, f"pass {word} {cell}")
            for row in (f"level {cell} 1", f"set {cell}", f"pass {cell}", f"set {cell} 1 1", f"level {cell} "):
                self.check(NoRow, row)

    def test_a_row_of_the_greatest_length(self):
        for row in ("9" * 10000, " " * 10000, "\n" * 10000, "lakes " * 1600, "count " + "1" * 9000):
            self.check(NoRow, row)


class RefusedElsewhereTest(unittest.TestCase):
    def test_no_cells_of_other_floors(self):
        for floor in ([[3]], [[1, 3, 0]], [[1], [3], [0]], [[3, 1], [4, 1], [5, 9]], [[3, 1, 4], [1, 5, 9]], COMB):
            desk = Desk(text_of(floor))
            many = len(cells_of(floor))
            for row in (f"level {many}", f"pass 0 {many}", f"pass {many} 0", f"set {many} 1", f"set {many + 1} 1"):
                refused(self, NoCell, desk.say, row)
            self.assertEqual(desk.say(f"level {many - 1}"), str(height_at(floor, many - 1)))
            self.assertEqual(desk.say(f"set {many - 1} 4"), "ok")
            self.assertEqual(desk.say(f"pass {many - 1} {many - 1}"), f"{many - 1} 4")

    def test_refused_between_sets(self):
        desk = Desk(CROSS)
        desk.say("set 4 0")
        refused(self, NoCell, desk.say, "set 9 7")
        desk.say("set 0 0")
        refused(self, NoRow, desk.say, f"set 0 {TOP + 1}")
        now = [[0, 1, 9], [2, 0, 0], [9, 3, 9]]
        self.assertEqual(answers_of(desk, now), answers_of(Desk(text_of(now)), now))

    def test_a_text_that_is_no_floors(self):
        texts = {
            "": 0, " ": 0, "1 2\n": 1, "1 2\n3": 1, "1 2\n3 4\n5 x": 2, "01": 0, f"{TOP + 1}": 0, "1\n2\n+3\n-4": 2,
            "5 " * 12 + "5": 0, "1\n" * 12 + "1": 12, "1 2\n3  4": 1, "1" * 20: 0, "lakes": 0,
        }
        for text, line in texts.items():
            for reach in REACHES:
                self.assertEqual(refused(self, NoFloor, Desk, text, reach).line, line, text)
            self.assertEqual(refused(self, NoFloor, Desk, text).line, line, text)

    def test_two_desks_of_one_text(self):
        for floor in FLOORS:
            one, other = Desk(text_of(floor)), Desk(text_of(floor))
            ahead = answers_of(other, floor)
            for cell in cells_of(floor):
                one.say(f"set {cell} {77 - cell % 5}")
            self.assertEqual(answers_of(other, floor), ahead)


if __name__ == "__main__":
    unittest.main()
