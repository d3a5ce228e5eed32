import itertools
import random
import unittest

from middleweb.classes import halves
from middleweb.parts import gate, hull, outside, shared
from middleweb.webs import cube_web, grid_web, line_web, tree_web
from tests.helper import (
    all_parts,
    assert_outside,
    closed_parts,
    is_closed,
    lies_between,
    middlewebs,
    other_numbers,
    reckoned_fars,
    reckoned_hull,
    renamed,
    renumbered,
    small_middlewebs,
    some_parts,
    some_places,
)


class Outside(unittest.TestCase):
    def test_written_out(self):
        self.assertIn(outside(line_web(3), [0, 2]), ((0, 2, 1), (2, 0, 1)))
        self.assertIsNone(outside(line_web(5), [1, 2, 3]))
        self.assertIsNone(outside(grid_web(3, 3), [0, 1, 3, 4]))
        self.assertIn(outside(cube_web(2), [0, 1, 2]), ((1, 2, 3), (2, 1, 3)))
        self.assertIn(outside(tree_web([0, 0]), [1, 2]), ((1, 2, 0), (2, 1, 0)))

    def test_closed_parts(self):
        for web in middlewebs():
            self.assertIsNone(outside(web, []))
            for part in some_parts(web):
                self.assertIsNone(outside(web, part))

    def test_every_part_of_small_webs(self):
        for web in small_middlewebs():
            told = reckoned_fars(web)
            for part in all_parts(len(web)):
                answer = outside(web, part)
                if is_closed(told, part):
                    self.assertIsNone(answer)
                else:
                    assert_outside(self, told, part, answer)

    def test_parts_of_greater_webs_that_are_not_closed(self):
        for web in middlewebs():
            told = reckoned_fars(web)
            for a, b in itertools.combinations(range(0, len(web), 3), 2):
                if told[a][b] > 1:
                    assert_outside(self, told, [a, b], outside(web, [a, b]))

    def test_one_place_left_out_of_many(self):
        part = [x for x in range(24) if x != 22]
        assert_outside(self, reckoned_fars(line_web(24)), part, outside(line_web(24), part))
        self.assertIsNone(outside(line_web(24), list(range(23))))


class Hulls(unittest.TestCase):
    def test_written_out(self):
        self.assertEqual(hull(line_web(6), [4, 1]), [1, 2, 3, 4])
        self.assertEqual(hull(grid_web(4, 6), [0, 23]), list(range(24)))
        self.assertEqual(hull(grid_web(4, 6), [14, 5]), [5, 6, 9, 10, 13, 14])
        self.assertEqual(hull(cube_web(4), [0, 15]), list(range(16)))
        self.assertEqual(hull(cube_web(3), [3, 5, 6]), list(range(8)))
        self.assertEqual(hull(cube_web(3), [1, 7]), [1, 3, 5, 7])
        self.assertEqual(hull(tree_web([0, 0, 0, 1]), [4, 2]), [0, 1, 2, 4])

    def test_more_than_what_lies_between_two_of_them(self):
        self.assertEqual(hull(cube_web(3), [1, 2, 4]), list(range(8)))
        self.assertEqual(hull(grid_web(3, 3), [1, 3, 8]), list(range(9)))

    def test_of_none(self):
        for web in middlewebs():
            self.assertEqual(hull(web, []), [])

    def test_of_one_place(self):
        for web in middlewebs():
            for x in range(len(web)):
                self.assertEqual(hull(web, [x]), [x])
                self.assertEqual(hull(web, [x, x, x]), [x])

    def test_twice_and_in_any_order(self):
        for some in itertools.permutations([10, 5, 10, 6]):
            self.assertEqual(hull(grid_web(4, 6), list(some)), [5, 6, 9, 10])

    def test_the_least_closed_part(self):
        for web in small_middlewebs():
            closed = closed_parts(web)
            for some in all_parts(len(web))[1:]:
                told = hull(web, some)
                self.assertIn(tuple(told), closed)
                having = [part for part in closed if set(some) <= set(part)]
                self.assertEqual(set(told), set.intersection(*[set(part) for part in having]))

    def test_greater_webs(self):
        chance = random.Random(5)
        for web in middlewebs():
            lengths = reckoned_fars(web)
            for turn in range(12):
                some = some_places(chance, len(web), 5)
                told = hull(web, some)
                self.assertIs(type(told), list)
                self.assertEqual(told, reckoned_hull(lengths, some))

    def test_the_halves_that_have_all(self):
        chance = random.Random(6)
        for web in middlewebs():
            some = some_places(chance, len(web), 4)
            having = [set(half) for both in halves(web) for half in both if set(some) <= set(half)]
            due = set(range(len(web))).intersection(*having)
            self.assertEqual(hull(web, some), sorted(due))

    def test_other_numbers(self):
        chance = random.Random(7)
        for web in middlewebs():
            numbers = other_numbers(len(web))
            some = some_places(chance, len(web), 4)
            told = hull(renumbered(web, numbers), [numbers[x] for x in some])
            self.assertEqual(told, renamed(numbers, hull(web, some)))


class Gates(unittest.TestCase):
    def test_written_out(self):
        self.assertEqual(gate(line_web(9), [3, 4, 5], 8), 5)
        self.assertEqual(gate(line_web(9), [3, 4, 5], 0), 3)
        self.assertEqual(gate(grid_web(4, 6), [5, 6, 9, 10], 23), 10)
        self.assertEqual(gate(grid_web(4, 6), [5, 6, 9, 10], 4), 5)
        self.assertEqual(gate(cube_web(3), [1, 3, 5, 7], 6), 7)
        self.assertEqual(gate(tree_web([0, 0, 1, 1]), [1, 3, 4], 2), 1)
        self.assertEqual(gate(line_web(1), [0], 0), 0)

    def test_of_a_place_in_the_part(self):
        for web in middlewebs():
            for part in some_parts(web):
                for x in part:
                    self.assertEqual(gate(web, part, x), x)

    def test_parts_of_one_place(self):
        for web in middlewebs():
            for x in range(len(web)):
                self.assertEqual(gate(web, [x], 0), x)
                self.assertEqual(gate(web, [0], x), 0)

    def assert_gates(self, web, parts):
        lengths = reckoned_fars(web)
        for part in parts:
            for x in range(len(web)):
                due = [y for y in part if all(lies_between(lengths, x, y, z) for z in part)]
                self.assertEqual([gate(web, part, x)], due)

    def test_every_closed_part_of_small_webs(self):
        for web in small_middlewebs():
            self.assert_gates(web, [list(part) for part in closed_parts(web)])

    def test_greater_webs(self):
        for web in middlewebs():
            self.assert_gates(web, some_parts(web))

    def test_other_numbers(self):
        for web in middlewebs():
            numbers = other_numbers(len(web))
            other = renumbered(web, numbers)
            for part in some_parts(web)[len(web):]:
                for x in range(0, len(web), 3):
                    told = gate(other, renamed(numbers, part), numbers[x])
                    self.assertEqual(told, numbers[gate(web, part, x)])


class Shared(unittest.TestCase):
    def test_one_part(self):
        for web in middlewebs():
            for part in some_parts(web):
                self.assertEqual(shared(web, [part]), ("place", part[0]))

    def test_the_least_of_several(self):
        web = line_web(9)
        self.assertEqual(shared(web, [[2, 3, 4, 5], [3, 4, 5, 6]]), ("place", 3))
        self.assertEqual(shared(web, [[3, 4, 5, 6], [0, 1, 2, 3, 4, 5], [4, 5, 6, 7, 8]]), ("place", 4))
        self.assertEqual(shared(grid_web(3, 3), [[1, 2, 4, 5, 7, 8], [3, 4, 5, 6, 7, 8]]), ("place", 4))
        self.assertEqual(shared(web, [[1, 2]] * 12), ("place", 1))
        self.assertEqual(shared(web, [list(range(9))] * 12), ("place", 0))

    def test_the_first_two_that_are_apart(self):
        web = line_web(9)
        self.assertEqual(shared(web, [[0, 1], [2, 3]]), ("apart", 0, 1))
        self.assertEqual(shared(web, [[0, 1], [1, 2], [2, 3], [4, 5]]), ("apart", 0, 2))
        self.assertEqual(shared(web, [list(range(9)), [0, 1], [0, 1, 2], [4], [2]]), ("apart", 1, 3))
        self.assertEqual(shared(web, [[3, 4], [4, 5], [4], [3], [5]]), ("apart", 0, 4))
        self.assertEqual(shared(web, [[0]] * 11 + [[1]]), ("apart", 0, 11))
        self.assertEqual(shared(web, [list(range(9))] * 10 + [[8], [0]]), ("apart", 10, 11))

    def test_any_lists(self):
        chance = random.Random(8)
        words = []
        for web in middlewebs():
            parts = some_parts(web)
            for turn in range(12):
                picked = [chance.choice(parts[len(web):]) for k in range(chance.randint(1, 12))]
                told = shared(web, picked)
                self.assertEqual(told, self.due(picked))
                self.assertEqual([type(told)] + [type(x) for x in told[1:]], [tuple] + [int] * (len(told) - 1))
                words.append(told[0])
        self.assertGreater(min(words.count("place"), words.count("apart")), 40)

    def due(self, parts):
        common = set.intersection(*[set(part) for part in parts])
        pairs = itertools.combinations(range(len(parts)), 2)
        apart = [(i, j) for i, j in pairs if not set(parts[i]) & set(parts[j])]
        self.assertNotEqual(bool(common), bool(apart))
        return ("place", min(common)) if common else ("apart",) + apart[0]

    def test_every_two_and_some_threes_of_small_webs(self):
        for web in small_middlewebs():
            closed = [list(part) for part in closed_parts(web)][::3]
            for one, other in itertools.product(closed, repeat=2):
                self.assertEqual(shared(web, [one, other]), self.due([one, other]))
            for three in itertools.combinations(closed[::4], 3):
                self.assertEqual(shared(web, list(three)), self.due(three))


class HandedInAndTold(unittest.TestCase):
    def test_lists_handed_in_are_not_changed(self):
        web = grid_web(3, 3)
        part, open_part, some = [0, 1, 3, 4], [0, 8], [8, 4, 8, 5]
        parts, apart = [[0, 1, 2], [1, 4], [1]], [[0], [1]]
        outside(web, part)
        outside(web, open_part)
        hull(web, some)
        gate(web, part, 8)
        gate(web, part, 3)
        shared(web, parts)
        shared(web, apart)
        self.assertEqual((part, open_part, some), ([0, 1, 3, 4], [0, 8], [8, 4, 8, 5]))
        self.assertEqual((parts, apart), ([[0, 1, 2], [1, 4], [1]], [[0], [1]]))

    def test_lists_handed_in_may_be_changed_behind(self):
        web = line_web(5)
        some, part, parts = [3, 1], [1, 2], [[0, 1], [1, 2]]
        told = hull(web, some), gate(web, part, 4), outside(web, part), shared(web, parts)
        some.append(0)
        part.append(4)
        parts[0].clear()
        parts.append([3])
        due = [1, 2, 3], 2, None, ("place", 1)
        self.assertEqual(told, due)
        again = hull(web, [3, 1]), gate(web, [1, 2], 4), outside(web, [1, 2]), shared(web, [[0, 1], [1, 2]])
        self.assertEqual(again, due)
        self.assertEqual((hull(web, some), outside(web, part)[2]), ([0, 1, 2, 3], 3))

    def test_a_hull_is_not_the_list_handed_in(self):
        web = line_web(4)
        for some, due in (([], []), ([2], [2]), ([1, 2], [1, 2]), ([0, 1, 2, 3], [0, 1, 2, 3])):
            told = hull(web, some)
            told.append(99)
            self.assertEqual(some, due)
            self.assertEqual(hull(web, some), due)

    def test_a_hull_told_may_be_changed(self):
        web = cube_web(2)
        for some in ([], [1], [0, 3]):
            before = list(hull(web, some))
            told = hull(web, some)
            told.append(99)
            told[0] = "changed"
            self.assertEqual(hull(web, some), before)

    def test_another_web_asked_between(self):
        told = hull(grid_web(3, 3), [0, 4])
        hull(cube_web(3), [0, 7])
        outside(line_web(3), [0, 2])
        self.assertEqual(told, [0, 1, 3, 4])
        self.assertEqual(hull(grid_web(3, 3), [0, 4]), told)


if __name__ == "__main__":
    unittest.main()
