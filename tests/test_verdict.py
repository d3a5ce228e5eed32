import itertools
import unittest

from middleweb.classes import bit_rows
from middleweb.verdict import looked
from middleweb.webs import cube_web, grid_web, line_web, ties_of, tree_web, web_of
from tests.helper import (
    all_pairs,
    all_webs,
    due_word,
    middlewebs,
    near_webs,
    other_numbers,
    reckoned_fars,
    reckoned_middles,
    renumbered,
    ring_web,
    sample_webs,
    twinned,
    unlike_bits,
    with_tie,
    without_place,
    without_tie,
)

# The cube without its place 7: the places 3, 5 and 6 alone have no middle.
CUT_CUBE = without_place(cube_web(3), 7)


def two_to_each_of(many):
    """The places 0 and 1 are tied to each of so many others."""
    return web_of(many + 2, [(a, b) for a in (0, 1) for b in range(2, many + 2)])


def all_tied(many):
    return web_of(many, all_pairs(many))


class Looked(unittest.TestCase):
    def assert_apart(self, web, told):
        word, a, b = told
        self.assertEqual((word, type(a), type(b)), ("apart", int, int))
        self.assertIsNone(reckoned_fars(web)[a][b])

    def assert_bad(self, web, told):
        word, three, middles = told
        self.assertEqual((word, type(three), type(middles)), ("bad", tuple, list))
        a, b, c = three
        due = reckoned_middles(reckoned_fars(web), a, b, c)
        self.assertEqual(middles, due)
        self.assertNotEqual(len(due), 1)

    def assert_one(self, web, told):
        word, rows = told
        self.assertEqual((word, type(rows)), ("one", list))
        self.assertEqual(rows, bit_rows(web))
        self.assertEqual(len(rows), len(web))
        lengths = reckoned_fars(web)
        for a, row in enumerate(rows):
            self.assertIs(type(row), tuple)
            for bit in row:
                self.assertIs(type(bit), int)
                self.assertIn(bit, (0, 1))
            for b, other in enumerate(rows):
                self.assertEqual(unlike_bits(row, other), lengths[a][b])

    def assert_looked(self, web, due):
        told = looked(web)
        self.assertIs(type(told), tuple)
        self.assertEqual(told[0], due, web)
        checks = {"apart": self.assert_apart, "bad": self.assert_bad, "one": self.assert_one}
        checks[due](web, told)

    def assert_looked_as_reckoned(self, web):
        self.assert_looked(web, due_word(reckoned_fars(web)))

    def test_in_two_and_more_pieces(self):
        for many in (2, 3, 24):
            self.assert_looked(web_of(many, []), "apart")
        self.assert_looked(web_of(5, [(0, 1), (1, 2), (3, 4)]), "apart")
        self.assert_looked(web_of(5, [(1, 2), (2, 3), (3, 4), (4, 1)]), "apart")
        self.assert_looked(web_of(4, [(0, 3), (1, 2)]), "apart")
        self.assert_looked(without_tie(line_web(24), (11, 12)), "apart")
        self.assertEqual(sorted(looked(web_of(2, []))[1:]), [0, 1])

    def test_apart_goes_ahead_of_bad(self):
        self.assert_looked(web_of(4, [(0, 1), (1, 2), (0, 2)]), "apart")
        self.assert_looked(web_of(4, [(1, 2), (2, 3), (1, 3)]), "apart")

    def test_rings(self):
        self.assert_looked(ring_web(4), "one")
        for many in [3] + list(range(5, 25)):
            self.assert_looked(ring_web(many), "bad")
        self.assertEqual(looked(ring_web(6))[2], [])

    def test_two_places_tied_to_each_of_others(self):
        self.assert_looked(two_to_each_of(2), "one")
        for many in range(3, 23):
            self.assert_looked(two_to_each_of(many), "bad")
        told = looked(two_to_each_of(3))
        self.assertEqual((sorted(told[1]), told[2]), ([2, 3, 4], [0, 1]))

    def test_all_tied_to_all(self):
        for many in (1, 2):
            self.assert_looked(all_tied(many), "one")
        for many in range(3, 25):
            self.assert_looked(all_tied(many), "bad")
        self.assertEqual(looked(all_tied(24))[2], [])

    def test_just_one_three_is_bad(self):
        told = looked(CUT_CUBE)
        self.assertEqual((told[0], sorted(told[1]), told[2]), ("bad", [3, 5, 6], []))
        tailed = web_of(24, ties_of(CUT_CUBE) + [(0, 7)] + [(k, k + 1) for k in range(7, 23)])
        for web, step in ((CUT_CUBE, 1), (tailed, 97)):
            for three in list(itertools.combinations(range(len(web)), 3))[::step]:
                others = [x for x in range(len(web)) if x not in three]
                numbers = [three[(3, 5, 6).index(x)] if x in (3, 5, 6) else others.pop() for x in range(len(web))]
                told = looked(renumbered(web, numbers))
                self.assertEqual((told[0], sorted(told[1]), told[2]), ("bad", list(three), []))

    def test_middlewebs(self):
        for web in middlewebs():
            self.assert_looked(web, "one")
        for many in range(1, 25):
            self.assert_looked(line_web(many), "one")
            self.assert_looked(tree_web([k // 3 for k in range(many - 1)]), "one")
            for wide in range(1, 24 // many + 1):
                self.assert_looked(grid_web(wide, many), "one")
        for size in range(5):
            self.assert_looked(cube_web(size), "one")

    def test_written_out(self):
        self.assertEqual(looked(line_web(1)), ("one", [()]))
        self.assertEqual(looked(line_web(2)), ("one", [(0,), (1,)]))
        self.assertEqual(looked(ring_web(4)), ("one", [(0, 0), (1, 0), (1, 1), (0, 1)]))

    def test_24_places(self):
        self.assert_looked(grid_web(4, 6), "one")
        self.assert_looked(twinned(grid_web(3, 4), list(range(12))), "one")
        self.assert_looked(with_tie(grid_web(4, 6), (0, 5)), "bad")
        self.assert_looked(without_tie(grid_web(4, 6), (9, 10)), "bad")
        self.assert_looked(without_tie(tree_web([0] * 23), (0, 23)), "apart")

    def test_near_a_middleweb(self):
        for web in (line_web(6), ring_web(4), grid_web(3, 3), cube_web(3), tree_web([0, 0, 1, 1, 2])):
            for near in near_webs(web):
                self.assert_looked_as_reckoned(near)
        for near in near_webs(middlewebs()[-1])[::7] + near_webs(grid_web(4, 6))[::17]:
            self.assert_looked_as_reckoned(near)

    def test_every_small_web(self):
        for many in range(1, 6):
            for web in all_webs(many):
                self.assert_looked_as_reckoned(web)

    def test_sample_webs_by_other_numbers(self):
        for web in sample_webs() + [ring_web(many) for many in (3, 5, 6, 7)]:
            due = due_word(reckoned_fars(web))
            self.assert_looked(web, due)
            self.assert_looked(renumbered(web, other_numbers(len(web))), due)


class Told(unittest.TestCase):
    """What is told is the asker's own."""

    def test_rows_may_be_changed(self):
        for web in (cube_web(2), line_web(1), grid_web(3, 2)):
            before = list(looked(web)[1])
            rows = looked(web)[1]
            rows[0] = "changed"
            rows.append((9,))
            self.assertEqual(looked(web), ("one", before))
            self.assertEqual(bit_rows(web), before)

    def test_middles_may_be_changed(self):
        for web in (two_to_each_of(3), ring_web(6), all_tied(3)):
            first = looked(web)
            three, middles = first[1], list(first[2])
            first[2].append(99)
            first[2][0] = "changed"
            self.assertEqual(looked(web), ("bad", three, middles))

    def test_another_web_asked_between(self):
        one, bad = looked(cube_web(2)), looked(two_to_each_of(3))
        kept = (one[0], list(one[1])), (bad[0], bad[1], list(bad[2]))
        looked(grid_web(4, 6))
        looked(ring_web(5))
        looked(web_of(3, []))
        self.assertEqual((one, bad), kept)
        self.assertEqual((looked(cube_web(2)), looked(two_to_each_of(3))), kept)


if __name__ == "__main__":
    unittest.main()
