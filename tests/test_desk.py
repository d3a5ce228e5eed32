import random
import unittest

from middleweb.classes import bit_rows, classes, middle
from middleweb.cubes import cube_counts
from middleweb.desk import Desk
from middleweb.doublings import doubled, folded, grown, unfolded
from middleweb.errors import NoName, NoPlace, NoRow, NoText, NotOne, NoWeb, TooMany
from middleweb.going import gathered
from middleweb.joins import glued, side_by_side
from middleweb.parts import gate, hull
from middleweb.texts import show_web
from middleweb.ways import between, far
from middleweb.webs import cube_web, grid_web, line_web, tree_web, web_of
from tests.helper import NO_NUMBERS, assert_refused, middlewebs, ring_web, small_middlewebs, some_places

LINE = "4: 0-1 1-2 2-3"
SQUARE = "4: 0-1 0-2 1-3 2-3"

# Names of one letter to eight, one the beginning of another.
STANDING = (
    ("a", LINE),
    ("ab", SQUARE),
    ("abcdefgh", show_web(grid_web(3, 2))),
    ("one", "1:"),
    ("big", show_web(line_web(24))),
    ("show", "2: 0-1"),
)

# Nothing stands by these, or they are no names at all.
FREE = ("b", "new", "abc", "abcdefg", "z", "zzzzzzzz", "web", "on")
NO_NAMES = ("", "A", "N", "Ab", "aB", "a1", "1", "0", "abcdefghi", "a-b", "a.", "ab:", "a_b", "-", "*", "aaaaaaaaaaaa")

# Not written as numbers of one or two figures.
NO_NUMBERS_WRITTEN = ("", "x", "a", "00", "01", "03", "007", "-0", "-1", "+1", "1.", "1.0", "1e1", "100", "000", "999",
                      "0x1", "1_0", "1:", "1,2", "0-1", "11111111111111")

ROWS_WITH_WRONG_COUNTS = """
    web|web new|line|line new|line new 3 3|cube|cube new|cube new 1 1|side|side new|side new a|side new a a a
    double|double new|double new a|fold|fold new|fold new a|fold new a 0 0|glue|glue new|glue new a|glue new a 0
    glue new a 0 a|glue new a 0 a 0 0|show|show a a|show a 0|far|far a|far a 0|far a 0 1 2|middle|middle a|middle a 0
    middle a 0 1|middle a 0 1 2 3|hull|hull a|between|between a|between a 0|between a 0 1 2|gate|gate a|gate a 0
    gate a 0 1|gate a 0 1 2 3|bits|bits a|bits a 0 1|gather|gather a|gather b|cubes|cubes a a|cubes a 0|unfold
    unfold a 0|unfold a a"""

UNKNOWN_ROWS = ("", " ", "  ", "a", "4", LINE, "ok", "foo", "foo a", "Show a", "SHOW a", "shoW a", "Web new 1:",
                "WEB new 1:", "Line new 3", "shows a", "sho a", "webs new 1:", "we new 1:", "tree new 0",
                "grid new 2 2", "show: a", "show,a", "show-a", "show\ta", "show\na", "web\tnew\t1:", " show a",
                "  show a", " web new 1:", " line new 3", "-", "agree a 0", "merge a 0 1", "kept a 0",
                "middles a 0 1 2", "folded new a 0", "__init__ a", "say show a", "drop a", "list")


def rows_of(text):
    return [row.strip() for part in text.split("\n") for row in part.split("|") if row.strip()]


def desk_of(webs):
    desk = Desk()
    for name, web in webs:
        desk.say(f"web {name} {show_web(web)}")
    return desk


def standing_desk():
    desk = Desk()
    for name, text in STANDING:
        desk.say(f"web {name} {text}")
    return desk


def blanks(numbers):
    return " ".join(str(number) for number in numbers)


class Rows(unittest.TestCase):
    def assert_made(self, desk, row, web):
        told = desk.say(row)
        self.assertEqual((told, type(told)), ("ok", str), row)
        self.assertEqual(desk.say("show " + row.split(" ")[1]), show_web(web), row)

    def assert_told(self, desk, row, text):
        told = desk.say(row)
        self.assertEqual((told, type(told)), (text, str), row)

    def assert_unchanged(self, desk):
        """Every name shows what it did, and those by which nothing stood have nothing."""
        for name, text in STANDING:
            self.assertEqual(desk.say(f"show {name}"), text)
        for name in FREE:
            assert_refused(self, NoName, desk.say, f"show {name}")

    def assert_row_refused(self, desk, due, row):
        assert_refused(self, due, desk.say, row)
        self.assert_unchanged(desk)


class Making(Rows):
    def test_web(self):
        desk = Desk()
        self.assert_made(desk, "web a 1:", line_web(1))
        self.assert_made(desk, "web b 4: 0-1 1-2 2-3", line_web(4))
        self.assert_made(desk, "web abcdefgh 4: 0-1 0-2 1-3 2-3", cube_web(2))
        self.assert_told(desk, "show a", "1:")
        self.assert_told(desk, "show b", LINE)

    def test_webs_of_many_sorts(self):
        for web in middlewebs():
            self.assert_made(Desk(), f"web w {show_web(web)}", web)

    def test_line(self):
        for many in range(1, 25):
            self.assert_made(Desk(), f"line new {many}", line_web(many))

    def test_cube(self):
        for size in range(5):
            self.assert_made(Desk(), f"cube new {size}", cube_web(size))

    def test_side(self):
        webs = [("a", line_web(3)), ("b", tree_web([0, 0, 0])), ("c", grid_web(4, 3)), ("d", line_web(2))]
        desk = desk_of(webs + [("one", line_web(1))])
        self.assert_made(desk, "side new a b", side_by_side(line_web(3), tree_web([0, 0, 0])))
        self.assert_made(desk, "side new b a", side_by_side(tree_web([0, 0, 0]), line_web(3)))
        self.assert_made(desk, "side new c d", side_by_side(grid_web(4, 3), line_web(2)))
        self.assert_made(desk, "side new a a", side_by_side(line_web(3), line_web(3)))
        self.assert_made(desk, "side new one c", grid_web(4, 3))

    def test_double(self):
        desk = desk_of([("a", grid_web(3, 3)), ("one", line_web(1))])
        self.assert_made(desk, "double new a 4", doubled(grid_web(3, 3), [4]))
        self.assert_made(desk, "double new a 0 4", doubled(grid_web(3, 3), [0, 1, 3, 4]))
        self.assert_made(desk, "double new a 4 0 4 0", doubled(grid_web(3, 3), [0, 1, 3, 4]))
        self.assert_made(desk, "double new a 8 6 2", doubled(grid_web(3, 3), list(range(9))))
        self.assert_made(desk, "double new one 0", line_web(2))
        self.assert_made(desk, "double new one" + " 0" * 100, line_web(2))

    def test_fold(self):
        for web in small_middlewebs():
            for number in range(len(classes(web))):
                self.assert_made(desk_of([("a", web)]), f"fold new a {number}", folded(web, number)[0])
        desk = desk_of([("a", line_web(24))])
        self.assert_made(desk, "fold new a 22", line_web(23))

    def test_glue(self):
        desk = desk_of([("a", grid_web(3, 2)), ("b", line_web(3)), ("one", line_web(1)), ("big", line_web(24))])
        self.assert_made(desk, "glue new a 4 b 1", glued(grid_web(3, 2), [4], line_web(3), [1]))
        self.assert_made(desk, "glue new b 2 a 5", glued(line_web(3), [2], grid_web(3, 2), [5]))
        self.assert_made(desk, "glue new b 0 b 0", glued(line_web(3), [0], line_web(3), [0]))
        self.assert_made(desk, "glue new big 23 one 0", line_web(24))
        self.assert_made(desk, "glue new one 0 one 0", line_web(1))
        self.assert_made(desk, "glue new one 0 a 5", glued(line_web(1), [0], grid_web(3, 2), [5]))

    def test_a_name_in_use_is_given_anew(self):
        desk = standing_desk()
        self.assert_made(desk, "line a 7", line_web(7))
        self.assert_made(desk, "cube a 3", cube_web(3))
        self.assert_made(desk, "web a 1:", line_web(1))
        self.assert_made(desk, "side a ab show", side_by_side(cube_web(2), line_web(2)))
        self.assert_made(desk, "double a ab 0", doubled(cube_web(2), [0]))
        self.assert_made(desk, "fold a ab 1", line_web(2))
        self.assert_made(desk, "glue a ab 3 show 0", glued(cube_web(2), [3], line_web(2), [0]))
        for name, text in STANDING[1:]:
            self.assert_told(desk, f"show {name}", text)

    def test_made_of_the_one_that_stood_there(self):
        desk = desk_of([("a", line_web(2)), ("b", line_web(3))])
        web = side_by_side(line_web(2), line_web(2))
        self.assert_made(desk, "side a a a", web)
        web = side_by_side(line_web(3), web)
        self.assert_made(desk, "side a b a", web)
        web = folded(web, 0)[0]
        self.assert_made(desk, "fold a a 0", web)
        web = doubled(web, hull(web, [0, 1]))
        self.assert_made(desk, "double a a 1 0", web)
        web = glued(web, [3], web, [1])
        self.assert_made(desk, "glue a a 3 a 1", web)
        web = glued(line_web(3), [1], web, [0])
        self.assert_made(desk, "glue a b 1 a 0", web)
        self.assert_told(desk, "show b", show_web(line_web(3)))

    def test_a_web_stays_when_what_it_was_made_of_is_made_anew(self):
        desk = desk_of([("a", line_web(3))])
        desk.say("double b a 0")
        desk.say("side c a a")
        desk.say("line a 1")
        self.assert_told(desk, "show b", show_web(doubled(line_web(3), [0])))
        self.assert_told(desk, "show c", show_web(grid_web(3, 3)))

    def test_names(self):
        desk = Desk()
        names = ("a", "z", "ab", "abc", "abcdefgh", "zzzzzzzz", "web", "show", "line", "ok", "az", "aa", "aaaaaaaa")
        for k, name in enumerate(names):
            self.assert_made(desk, f"line {name} {k + 1}", line_web(k + 1))
        for k, name in enumerate(names):
            self.assert_told(desk, f"show {name}", show_web(line_web(k + 1)))

    def test_a_name_is_no_web_before_it_is_made(self):
        desk = Desk()
        assert_refused(self, NoName, desk.say, "side a a a")
        assert_refused(self, NoName, desk.say, "show a")
        desk.say("line a 2")
        self.assert_told(desk, "show a", "2: 0-1")


class Asking(Rows):
    def test_written_out(self):
        desk = standing_desk()
        told = (
            ("show a", LINE),
            ("far a 0 3", "3"),
            ("far a 2 2", "0"),
            ("middle a 0 3 2", "2"),
            ("hull abcdefgh 0 4", "0 1 3 4"),
            ("hull a 3 1", "1 2 3"),
            ("hull a 2 2 2", "2"),
            ("between a 3 1", "1 2 3"),
            ("between ab 0 3", "0 1 2 3"),
            ("between ab 1 1", "1"),
            ("gate a 0 2 3", "2"),
            ("gate a 2 0 3", "2"),
            ("gate abcdefgh 5 0 1", "1"),
            ("bits a 0", "0 0 0"),
            ("bits a 2", "1 1 0"),
            ("bits ab 3", "1 1"),
            ("bits one 0", ""),
            ("gather a 1 1 0 2", "5: 1 2 3"),
            ("gather a 0 0 0 0", "0: 0 1 2 3"),
            ("gather one 7", "0: 0"),
            ("gather show 1000000000 999999999", "999999999: 0"),
            ("cubes a", "4 3"),
            ("cubes ab", "4 4 1"),
            ("cubes one", "1"),
            ("unfold show", "0"),
            ("unfold one", ""),
        )
        for row, text in told:
            self.assert_told(desk, row, text)
        self.assert_unchanged(desk)

    def test_of_one_place(self):
        desk = standing_desk()
        rows = (("far one 0 0", "0"), ("middle one 0 0 0", "0"), ("hull one 0", "0"), ("between one 0 0", "0"),
                ("gate one 0 0 0", "0"), ("show one", "1:"))
        for row, text in rows:
            self.assert_told(desk, row, text)

    def test_as_the_stages_tell(self):
        chance = random.Random(31)
        for web in middlewebs():
            desk = desk_of([("w", web)])
            self.assert_told(desk, "show w", show_web(web))
            self.assert_told(desk, "cubes w", blanks(cube_counts(web)))
            for turn in range(6):
                x, y, z = [chance.randrange(len(web)) for k in range(3)]
                self.assert_told(desk, f"far w {x} {y}", str(far(web, x, y)))
                self.assert_told(desk, f"middle w {x} {y} {z}", str(middle(web, x, y, z)))
                self.assert_told(desk, f"between w {x} {y}", blanks(between(web, x, y)))
                self.assert_told(desk, f"gate w {x} {y} {z}", str(gate(web, hull(web, [y, z]), x)))
                self.assert_told(desk, f"bits w {x}", blanks(bit_rows(web)[x]))
                some = some_places(chance, len(web), 5)
                self.assert_told(desk, f"hull w {blanks(some)}", blanks(hull(web, some)))
                people = [chance.choice((0, 1, 2, 10 ** 9)) for place in web]
                going, places, sides = gathered(web, people)
                self.assert_told(desk, f"gather w {blanks(people)}", f"{going}: {blanks(places)}")

    def test_the_least_place_written_by_two_figures(self):
        desk = standing_desk()
        self.assert_told(desk, "far big 10 23", "13")
        self.assert_told(desk, "hull big 23 9", blanks(range(9, 24)))
        self.assert_told(desk, "gate big 0 23 10", "10")

    def test_great_numbers_of_people(self):
        desk = standing_desk()
        row = "gather big 1000000000" + " 0" * 22 + " 1000000000"
        self.assert_told(desk, row, "23000000000: " + blanks(range(24)))

    def test_unfold(self):
        for web in middlewebs():
            told = desk_of([("w", web)]).say("unfold w")
            parts = [[int(place) for place in word.split(",")] for word in told.split(" ")] if told else []
            self.assertEqual(parts, unfolded(web)[0])
            self.assertEqual(" ".join(",".join(str(place) for place in part) for part in parts), told)
            self.assertEqual(cube_counts(grown(parts)), cube_counts(web))

    def test_asking_changes_nothing(self):
        desk = standing_desk()
        rows = ["show a", "far a 0 1", "middle a 0 1 2", "hull a 0 2", "between a 0 2", "gate a 0 1 2", "bits a 0"]
        rows += ["gather a 1 2 3 4", "cubes a", "unfold a"]
        first = [desk.say(row) for row in rows]
        self.assert_unchanged(desk)
        self.assertEqual([desk.say(row) for row in rows], first)

    def test_one_place_or_more(self):
        desk = standing_desk()
        self.assert_told(desk, "hull a 1", "1")
        self.assert_told(desk, "hull a" + " 1" * 200, "1")
        self.assert_told(desk, "hull a 0 1 2 3", "0 1 2 3")


class NoRows(Rows):
    def test_what_is_no_text(self):
        desk = standing_desk()
        things = NO_NUMBERS + (0, 1, 10 ** 59, ["show a"], ("show", "a"), ["show", "a"], b"show a", {"show a": "a"})
        for thing in things:
            if not isinstance(thing, str):
                self.assert_row_refused(desk, NoRow, thing)

    def test_unknown_first_words(self):
        desk = standing_desk()
        for row in UNKNOWN_ROWS:
            self.assert_row_refused(desk, NoRow, row)

    def test_too_few_and_too_many_words(self):
        desk = standing_desk()
        for row in rows_of(ROWS_WITH_WRONG_COUNTS):
            self.assert_row_refused(desk, NoRow, row)

    def test_a_wrong_count_goes_ahead_of_wrong_words(self):
        desk = standing_desk()
        for row in ("show nothing a", "far nothing x", "far A 0 1 x", "line N 3 x", "side N b", "bits b x y",
                    "cubes A b", "glue N b x", "fold new b x y", "middle b 99", "gate a 99 99", "unfold b b",
                    "double N b", "hull B"):
            self.assert_row_refused(desk, NoRow, row)

    def test_two_blanks_or_one_at_an_end_make_a_word(self):
        desk = standing_desk()
        for row in ("show  a", "show a ", "far a 0  1", "far  a 0 1", "far a 0 1 ", "cubes  a", "cubes a ", "unfold a ",
                    "line  new 3", "line new  3", "line new 3 ", "side new  a a", "side new a a ", "fold new a 0 ",
                    "glue new a 0 a 0 ", "bits a 0 ", "middle a 0 1 2 ", "between a 0 1 ", "gate a 0 1 2 "):
            self.assert_row_refused(desk, NoRow, row)
        # There the number of words is right; a word without signs is none of those due.
        for row in ("show ", "cubes ", "unfold ", "far  0 1", "bits  0", "side new a ", "side new  a", "side  a a",
                    "line  3", "cube  3", "fold  a 0", "double  a 0", "glue  a 0 a 0", "glue new a 0  0", "hull  0",
                    "gather  0", "web  1:", "web  "):
            self.assert_row_refused(desk, NoName, row)
        for row in ("far a  1", "far a 0 ", "line new ", "cube new ", "fold new a ", "double new a ", "double new a 0 ",
                    "double new a  0", "glue new a  a 0", "glue new a 0 a ", "hull a ", "hull a 0 ", "hull a  0",
                    "bits a ", "middle a 0 1 ", "between a 0 ", "gate a  0 1"):
            self.assert_row_refused(desk, NoPlace, row)

    def test_web_without_the_second_blank(self):
        desk = standing_desk()
        for row in ("web", "web ", "web new", "web a", "web N", "web 1:"):
            self.assert_row_refused(desk, NoRow, row)

    def test_gather_with_another_count_of_numbers(self):
        desk = standing_desk()
        for row in ("gather a", "gather one", "gather b", "gather A", "gather"):
            self.assert_row_refused(desk, NoRow, row)
        for row in ("gather a 1", "gather a 1 1 1", "gather a 1 1 1 1 1", "gather one 1 1", "gather a 1 1 1 1 ",
                    "gather big" + " 1" * 23, "gather big" + " 1" * 25, "gather a  1", "gather a 1  1",
                    # Behind NoName, ahead of NoPlace.
                    "gather a x", "gather a x 1 1", "gather a 01 1 1", "gather a 1 1 1 1 x", "gather a ",
                    "gather a 1000000001", "gather one x x"):
            self.assert_row_refused(desk, NoRow, row)
        for row in ("gather b 1", "gather b x", "gather A 1 1 1 1", "gather b 01 1", "gather  1 1 1 1"):
            self.assert_row_refused(desk, NoName, row)


class NoNames(Rows):
    def test_where_a_web_is_due(self):
        desk = standing_desk()
        for name in FREE + NO_NAMES:
            for row in (f"show {name}", f"far {name} 0 0", f"middle {name} 0 0 0", f"hull {name} 0", f"hull {name} 0 0",
                        f"between {name} 0 0", f"gate {name} 0 0 0", f"bits {name} 0", f"gather {name} 1",
                        f"cubes {name}", f"unfold {name}", f"side new {name} a", f"side new a {name}",
                        f"side new {name} {name}", f"double new {name} 0", f"fold new {name} 0",
                        f"glue new {name} 0 a 0", f"glue new a 0 {name} 0"):
                assert_refused(self, NoName, desk.say, row)
            self.assert_unchanged(desk)

    def test_new_names_that_are_none(self):
        desk = standing_desk()
        for name in NO_NAMES:
            for row in (f"web {name} 1:", f"line {name} 3", f"cube {name} 1", f"side {name} a a", f"double {name} a 0",
                        f"fold {name} a 0", f"glue {name} a 0 a 0"):
                assert_refused(self, NoName, desk.say, row)
            self.assert_unchanged(desk)

    def test_letters_of_other_scripts(self):
        desk = standing_desk()
        for name in ("\u00e4", "a\u00e9", "\u03b1", "a\n", "\uff41"):
            assert_refused(self, NoName, desk.say, f"line {name} 3")
            assert_refused(self, NoName, desk.say, f"show {name}")


class NoPlaces(Rows):
    def test_places(self):
        desk = standing_desk()
        for word in NO_NUMBERS_WRITTEN + ("4", "5", "9", "10", "24", "99"):
            for row in (f"far a {word} 0", f"far a 0 {word}", f"middle a {word} 0 0", f"middle a 0 {word} 0",
                        f"middle a 0 0 {word}", f"hull a {word}", f"hull a 0 {word}", f"hull a {word} 0",
                        f"between a {word} 0", f"between a 0 {word}", f"gate a {word} 0 0", f"gate a 0 {word} 0",
                        f"gate a 0 0 {word}", f"bits a {word}", f"double new a {word}", f"double new a 0 {word}",
                        f"double a a {word} 0", f"glue new a {word} big 0", f"glue new big 0 a {word}",
                        f"glue a a {word} a 0"):
                assert_refused(self, NoPlace, desk.say, row)
            self.assert_unchanged(desk)

    def test_the_last_place_is_there_and_the_next_one_is_not(self):
        for many in (1, 2, 9, 10, 11, 23, 24):
            desk = desk_of([("w", line_web(many))])
            self.assert_told(desk, f"far w 0 {many - 1}", str(many - 1))
            assert_refused(self, NoPlace, desk.say, f"far w 0 {many}")
            assert_refused(self, NoPlace, desk.say, f"bits w {many}")

    def test_of_glue_each_place_is_looked_for_in_its_own_web(self):
        desk = desk_of([("a", line_web(2)), ("b", line_web(5))])
        self.assert_made(desk, "glue new b 4 a 1", glued(line_web(5), [4], line_web(2), [1]))
        self.assert_made(desk, "glue new a 1 b 4", glued(line_web(2), [1], line_web(5), [4]))
        for row in ("glue none a 4 b 1", "glue none b 1 a 4", "glue none a 2 b 0", "glue none b 0 a 2"):
            assert_refused(self, NoPlace, desk.say, row)
        assert_refused(self, NoName, desk.say, "show none")

    def test_classes(self):
        desk = standing_desk()
        for word in NO_NUMBERS_WRITTEN + ("3", "4", "10", "99"):
            self.assert_row_refused(desk, NoPlace, f"fold new a {word}")
        self.assert_row_refused(desk, NoPlace, "fold a ab 2")
        self.assert_row_refused(desk, NoPlace, "fold big big 23")
        for word in ("0", "1", "00"):
            self.assert_row_refused(desk, NoPlace, f"fold new one {word}")
        self.assert_made(desk, "fold new a 2", line_web(3))

    def test_numbers_of_lines_and_cubes(self):
        desk = standing_desk()
        for word in NO_NUMBERS_WRITTEN:
            for row in (f"line new {word}", f"cube new {word}", f"line a {word}", f"cube a {word}"):
                assert_refused(self, NoPlace, desk.say, row)
            self.assert_unchanged(desk)

    def test_numbers_of_people(self):
        desk = standing_desk()
        words = ("", "x", "00", "01", "007", "0000000001", "-1", "+1", "-0", "1.0", "1e3", "1_0", "1000000001", "1,",
                 "1999999999", "9999999999", "10000000000", "10000000000000000000", "01000000000", "00000000000", "1:")
        for word in words:
            for row in (f"gather one {word}", f"gather a {word} 1 1 1", f"gather a 1 1 1 {word}"):
                assert_refused(self, NoPlace, desk.say, row)
            self.assert_unchanged(desk)
        for number in (0, 9, 10, 99, 100, 4711, 999999999, 10 ** 9):
            self.assert_told(desk, f"gather show {number} 0", "0: 0 1" if number == 0 else "0: 0")

    def test_figures_of_other_scripts(self):
        desk = standing_desk()
        for word in ("\u0661", "\u00b2", "\uff11", "1\n"):
            for row in (f"far a 0 {word}", f"line new {word}", f"gather one {word}", f"fold new a {word}"):
                assert_refused(self, NoPlace, desk.say, row)


class LaterRefusals(Rows):
    def test_texts_that_are_none(self):
        desk = standing_desk()
        for text in ("", " ", "1", ":", "0:", "01:", "25:", " 1:", "1: ", "2:  0-1", "2: 0-1 ", "2: 1-0", "2: 0-0",
                     "2: 0-2", "2: 0-1 0-1", "3: 1-2 0-1", "2:0-1", "a", "new", "2: 0-1\n", "a b c", "2: 0-01"):
            for name in ("new", "a", "show"):
                self.assert_row_refused(desk, NoText, f"web {name} {text}")

    def test_webs_that_are_no_middlewebs(self):
        desk = standing_desk()
        book = web_of(5, [(0, 2), (0, 3), (0, 4), (1, 2), (1, 3), (1, 4)])
        webs = [web_of(2, []), web_of(24, []), web_of(4, [(0, 1), (2, 3)]), ring_web(3), ring_web(5), ring_web(6), book]
        for web in webs:
            for name in ("new", "ab"):
                self.assert_row_refused(desk, NotOne, f"web {name} {show_web(web)}")

    def test_lines_and_cubes_that_the_stages_refuse(self):
        desk = standing_desk()
        for row in ("line new 0", "line new 25", "line new 26", "line new 99", "cube new 5", "cube new 6",
                    "cube new 10", "cube new 24", "cube new 99", "line a 0", "line a 25", "cube a 5"):
            self.assert_row_refused(desk, NoWeb, row)

    def test_more_than_24_places(self):
        desk = standing_desk()
        for row in ("side new big a", "side new a big", "side new big big", "side new abcdefgh abcdefgh",
                    "side a big show", "double new big 0", "double new big 0 23", "double big big 23",
                    "glue new big 0 a 0", "glue new a 3 big 23", "glue new big 5 big 5",
                    "glue new big 0 show 1", "glue a big 0 a 0"):
            self.assert_row_refused(desk, TooMany, row)

    def test_just_24_places(self):
        desk = standing_desk()
        self.assert_made(desk, "side new a abcdefgh", side_by_side(line_web(4), grid_web(3, 2)))
        self.assert_made(desk, "fold new big 0", line_web(23))
        self.assert_made(desk, "double most new 0", doubled(line_web(23), [0]))
        self.assert_made(desk, "glue most new 22 show 0", line_web(24))
        self.assert_row_refused(standing_desk(), TooMany, "glue new big 23 show 0")


class TheOneToldFirst(Rows):
    def test_word_by_word_from_the_left(self):
        desk = standing_desk()
        due = (
            (NoName, "far b 99 x"), (NoName, "far B x x"), (NoName, "middle b x 0 0"), (NoName, "hull b x"),
            (NoName, "gate b x x x"), (NoName, "bits b x"), (NoName, "line N x"), (NoName, "line N 99"),
            (NoName, "cube N 99"), (NoName, "cube N x"), (NoName, "line N 0"), (NoName, "side N big big"),
            (NoName, "side N a a"), (NoName, "side new big b"), (NoName, "double N a 99"), (NoName, "double new b x"),
            (NoName, "double N big 0"), (NoName, "fold N a x"), (NoName, "fold new b x"), (NoName, "fold N one 0"),
            (NoName, "glue N a x b x"), (NoName, "glue new b x a x"), (NoName, "glue new a 0 b x"),
            (NoName, "glue N big 0 big 0"), (NoName, "web N x"), (NoName, "web N 2:"), (NoName, "web N "),
            (NoPlace, "glue new a x b 0"), (NoPlace, "glue new a 4 b x"), (NoPlace, "glue new a 4 B 0"),
            (NoPlace, "glue new big 24 big 0"), (NoPlace, "glue new big 0 big 24"), (NoPlace, "double new big 24"),
            (NoPlace, "double new big 0 x"), (NoPlace, "line new 000"), (NoPlace, "line new 250"),
            (NoPlace, "cube new 05"), (NoRow, "gather a x"), (NoName, "gather b x x"),
        )
        for kind, row in due:
            self.assert_row_refused(desk, kind, row)

    def test_text_then_middleweb(self):
        desk = standing_desk()
        self.assert_row_refused(desk, NoText, "web new 3: 0-1 0-2 1-2 ")
        self.assert_row_refused(desk, NoText, "web new 3: 0-1 1-2 0-2")
        self.assert_row_refused(desk, NotOne, "web new 3: 0-1 0-2 1-2")


class Desks(Rows):
    def test_two_desks_know_nothing_of_one_another(self):
        one, other = Desk(), Desk()
        one.say("line a 3")
        assert_refused(self, NoName, other.say, "show a")
        other.say("cube a 2")
        other.say("line b 2")
        self.assert_told(one, "show a", "3: 0-1 1-2")
        self.assert_told(other, "show a", SQUARE)
        assert_refused(self, NoName, one.say, "show b")
        assert_refused(self, NoName, Desk().say, "show a")

    def test_a_new_desk_keeps_nothing(self):
        for name in ("a", "web", "show", "new"):
            assert_refused(self, NoName, Desk().say, f"show {name}")

    def test_it_goes_on_behind_refusals(self):
        desk = standing_desk()
        for row in ("show b", "line new 0", "web new 2:", "far a 0 x", None, "foo"):
            with self.assertRaises(ValueError):
                desk.say(row)
        self.assert_made(desk, "line new 3", line_web(3))
        self.assert_told(desk, "far new 0 2", "2")


if __name__ == "__main__":
    unittest.main()
