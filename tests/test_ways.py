import unittest

from middleweb.ways import between, far, fars, middles, way_between
from middleweb.webs import cube_web, grid_web, line_web, tree_web, web_of
from tests.helper import lies_between, other_numbers, reckoned_fars, reckoned_middles, renumbered, sample_webs

TWO_PIECES = web_of(5, [(0, 1), (1, 2), (3, 4)])
ALL_TIED = web_of(3, [(0, 1), (1, 2), (0, 2)])
RING_OF_SIX = web_of(6, [(0, 1), (1, 2), (2, 3), (3, 4), (4, 5), (5, 0)])
# Each of 0, 1, 2 is tied to both 3 and 4.
TWO_AND_THREE = web_of(5, [(0, 3), (1, 3), (2, 3), (0, 4), (1, 4), (2, 4)])


def triples(many):
    """All threes of a small web, some of a greater one."""
    step = 1 if many <= 6 else 5
    return [(a, b, c) for a in range(0, many, step) for b in range(0, many, step) for c in range(0, many, step)]


class Far(unittest.TestCase):
    def test_ordinary(self):
        self.assertEqual(far(line_web(24), 0, 23), 23)
        self.assertEqual(far(line_web(24), 20, 3), 17)
        self.assertEqual(far(grid_web(4, 6), 0, 23), 8)
        self.assertEqual(far(cube_web(4), 5, 10), 4)
        self.assertEqual(far(tree_web([0, 0, 1, 2]), 3, 4), 4)
        self.assertEqual(far(RING_OF_SIX, 1, 5), 2)

    def test_to_itself(self):
        for web in sample_webs():
            for place in range(len(web)):
                self.assertEqual(far(web, place, place), 0)

    def test_without_a_way(self):
        self.assertIsNone(far(TWO_PIECES, 0, 3))
        self.assertIsNone(far(TWO_PIECES, 4, 2))
        self.assertIsNone(far(web_of(24, []), 0, 23))

    def test_every_two_places(self):
        for web in sample_webs():
            due = reckoned_fars(web)
            told = [[far(web, a, b) for b in range(len(web))] for a in range(len(web))]
            self.assertEqual(told, due)


class Fars(unittest.TestCase):
    def test_ordinary(self):
        self.assertEqual(fars(line_web(3)), [[0, 1, 2], [1, 0, 1], [2, 1, 0]])
        self.assertEqual(fars(web_of(1, [])), [[0]])

    def test_without_a_way(self):
        self.assertEqual(
            fars(TWO_PIECES),
            [
                [0, 1, 2, None, None],
                [1, 0, 1, None, None],
                [2, 1, 0, None, None],
                [None, None, None, 0, 1],
                [None, None, None, 1, 0],
            ],
        )
        self.assertEqual(fars(web_of(2, [])), [[0, None], [None, 0]])

    def test_every_web(self):
        for web in sample_webs():
            told = fars(web)
            self.assertEqual(told, reckoned_fars(web))
            self.assertIs(type(told), list)
            for row in told:
                self.assertIs(type(row), list)
                for number in row:
                    self.assertIn(type(number), (int, type(None)))

    def test_other_numbers(self):
        for web in sample_webs():
            numbers = other_numbers(len(web))
            told, other = fars(web), fars(renumbered(web, numbers))
            for a in range(len(web)):
                for b in range(len(web)):
                    self.assertEqual(told[a][b], other[numbers[a]][numbers[b]])


class Ways(unittest.TestCase):
    def assert_shortest_way(self, web, a, b, due):
        way = way_between(web, a, b)
        if due is None:
            self.assertIsNone(way)
            return
        self.assertIs(type(way), list)
        self.assertEqual((way[0], way[-1]), (a, b))
        self.assertEqual(len(way) - 1, due)
        for k in range(due):
            self.assertIn(way[k + 1], web[way[k]])

    def test_ordinary(self):
        self.assertEqual(way_between(line_web(5), 1, 4), [1, 2, 3, 4])
        self.assertEqual(way_between(line_web(5), 4, 1), [4, 3, 2, 1])
        self.assertEqual(way_between(tree_web([0, 0, 1, 2]), 3, 4), [3, 1, 0, 2, 4])
        self.assertIn(way_between(cube_web(2), 0, 3), ([0, 1, 3], [0, 2, 3]))

    def test_to_itself(self):
        for web in sample_webs():
            for place in range(len(web)):
                self.assertEqual(way_between(web, place, place), [place])

    def test_without_a_way(self):
        self.assertIsNone(way_between(TWO_PIECES, 2, 4))
        self.assertIsNone(way_between(TWO_PIECES, 3, 0))

    def test_every_two_places(self):
        for web in sample_webs():
            due = reckoned_fars(web)
            for a in range(len(web)):
                for b in range(len(web)):
                    self.assert_shortest_way(web, a, b, due[a][b])

    def test_other_numbers(self):
        for web in sample_webs():
            numbers = other_numbers(len(web))
            other = renumbered(web, numbers)
            due = reckoned_fars(web)
            for a in range(len(web)):
                self.assert_shortest_way(other, numbers[a], numbers[0], due[a][0])


class Between(unittest.TestCase):
    def test_ordinary(self):
        self.assertEqual(between(line_web(6), 4, 1), [1, 2, 3, 4])
        self.assertEqual(between(grid_web(3, 3), 0, 4), [0, 1, 3, 4])
        self.assertEqual(between(grid_web(3, 3), 2, 6), list(range(9)))
        self.assertEqual(between(cube_web(4), 0, 15), list(range(16)))
        self.assertEqual(between(ALL_TIED, 0, 2), [0, 2])
        self.assertEqual(between(RING_OF_SIX, 0, 3), [0, 1, 2, 3, 4, 5])
        self.assertEqual(between(RING_OF_SIX, 5, 1), [0, 1, 5])

    def test_to_itself(self):
        for web in sample_webs():
            for place in range(len(web)):
                self.assertEqual(between(web, place, place), [place])

    def test_without_a_way(self):
        self.assertEqual(between(TWO_PIECES, 0, 3), [])
        self.assertEqual(between(TWO_PIECES, 4, 1), [])
        self.assertEqual(between(web_of(24, []), 23, 0), [])

    def test_places_of_another_piece_do_not_lie_between(self):
        self.assertEqual(between(TWO_PIECES, 0, 2), [0, 1, 2])
        self.assertEqual(between(TWO_PIECES, 4, 3), [3, 4])

    def test_every_two_places(self):
        for web in sample_webs():
            told = reckoned_fars(web)
            many = len(web)
            for a in range(many):
                for b in range(many):
                    due = [x for x in range(many) if lies_between(told, a, x, b)]
                    self.assertEqual(between(web, a, b), due)

    def test_other_numbers(self):
        for web in sample_webs():
            numbers = other_numbers(len(web))
            other = renumbered(web, numbers)
            for a in range(len(web)):
                told = between(web, a, 0)
                self.assertEqual(sorted(numbers[x] for x in told), between(other, numbers[a], numbers[0]))


class Middles(unittest.TestCase):
    def test_just_one(self):
        self.assertEqual(middles(line_web(9), 7, 2, 5), [5])
        self.assertEqual(middles(grid_web(3, 3), 0, 2, 7), [1])
        self.assertEqual(middles(cube_web(3), 3, 5, 6), [7])
        self.assertEqual(middles(tree_web([0, 0, 0]), 1, 2, 3), [0])

    def test_some_alike(self):
        for web in (line_web(5), cube_web(3), ALL_TIED, RING_OF_SIX, TWO_AND_THREE):
            for a in range(len(web)):
                self.assertEqual(middles(web, a, a, a), [a])
                for b in range(len(web)):
                    self.assertEqual(middles(web, a, a, b), [a])
                    self.assertEqual(middles(web, a, b, a), [a])
                    self.assertEqual(middles(web, b, a, a), [a])

    def test_none(self):
        self.assertEqual(middles(ALL_TIED, 0, 1, 2), [])
        self.assertEqual(middles(RING_OF_SIX, 0, 2, 4), [])

    def test_several(self):
        self.assertEqual(middles(TWO_AND_THREE, 0, 1, 2), [3, 4])
        self.assertEqual(middles(TWO_AND_THREE, 2, 0, 1), [3, 4])

    def test_without_a_way(self):
        self.assertEqual(middles(TWO_PIECES, 0, 1, 3), [])
        self.assertEqual(middles(TWO_PIECES, 3, 0, 1), [])
        self.assertEqual(middles(TWO_PIECES, 0, 3, 1), [])
        self.assertEqual(middles(TWO_PIECES, 3, 3, 0), [])
        self.assertEqual(middles(web_of(3, []), 0, 1, 2), [])

    def test_every_web(self):
        for web in sample_webs():
            told = reckoned_fars(web)
            for a, b, c in triples(len(web)):
                self.assertEqual(middles(web, a, b, c), reckoned_middles(told, a, b, c))

    def test_other_numbers(self):
        for web in sample_webs():
            numbers = other_numbers(len(web))
            other = renumbered(web, numbers)
            for a, b, c in triples(len(web)):
                told = sorted(numbers[x] for x in middles(web, a, b, c))
                self.assertEqual(told, middles(other, numbers[a], numbers[b], numbers[c]))


class Told(unittest.TestCase):
    """Lists that are told are the asker's own."""

    def test_lists_told_may_be_changed(self):
        web = grid_web(3, 2)
        asked = (
            lambda: way_between(web, 0, 5),
            lambda: way_between(web, 1, 1),
            lambda: between(web, 0, 5),
            lambda: between(TWO_PIECES, 0, 4),
            lambda: middles(web, 0, 2, 4),
            lambda: middles(TWO_PIECES, 0, 1, 4),
        )
        for ask in asked:
            told = ask()
            before = list(told)
            told.append(99)
            told[0] = "changed"
            self.assertEqual(ask(), before)

    def test_fars_may_be_changed_and_the_lists_within(self):
        web = line_web(3)
        told = fars(web)
        told[0][2] = 99
        told[1].clear()
        self.assertEqual((told[0], told[1], told[2]), ([0, 1, 99], [], [2, 1, 0]))
        told.pop()
        self.assertEqual(fars(web), [[0, 1, 2], [1, 0, 1], [2, 1, 0]])
        self.assertEqual(far(web, 0, 2), 2)

    def test_an_answer_stays_as_it_was(self):
        web = cube_web(2)
        first, second = fars(web), between(web, 0, 3)
        fars(line_web(4))
        between(web, 1, 2)
        self.assertEqual(first, [[0, 1, 1, 2], [1, 0, 2, 1], [1, 2, 0, 1], [2, 1, 1, 0]])
        self.assertEqual(second, [0, 1, 2, 3])


if __name__ == "__main__":
    unittest.main()
