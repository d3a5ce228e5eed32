import random
import unittest

from middleweb.errors import NoWeb
from middleweb.webs import cube_web, grid_web, line_web, ties_of, tree_web, web_of
from tests.helper import (
    NO_NUMBERS,
    all_pairs,
    assert_refused,
    other_numbers,
    renumbered,
    sample_webs,
)

NO_LISTS = (None, True, False, 0, 1, 1.0, "", "01", (), ((0, 1),), {}, {(0, 1): 1}, {(0, 1)}, b"", object())
FAR_OFF = (10 ** 60 - 1, -(10 ** 60) + 1)


class Webs(unittest.TestCase):
    def assert_web(self, web, many):
        self.assertIs(type(web), tuple)
        self.assertEqual(len(web), many)
        for place, tied in enumerate(web):
            self.assertIs(type(tied), tuple)
            self.assertEqual(list(tied), sorted(set(tied)))
            self.assertNotIn(place, tied)
            for other in tied:
                self.assertIs(type(other), int)
                self.assertTrue(0 <= other < many)
                self.assertIn(place, web[other])

    def test_ordinary(self):
        self.assertEqual(web_of(4, [(0, 1), (1, 2), (2, 3)]), ((1,), (0, 2), (1, 3), (2,)))
        self.assertEqual(web_of(3, [(0, 1), (0, 2), (1, 2)]), ((1, 2), (0, 2), (0, 1)))
        self.assertEqual(web_of(5, [(1, 3)]), ((), (3,), (), (1,), ()))

    def test_one_place(self):
        self.assertEqual(web_of(1, []), ((),))

    def test_no_ties(self):
        for many in range(1, 25):
            self.assertEqual(web_of(many, []), ((),) * many)

    def test_all_ties(self):
        for many in range(1, 25):
            due = tuple(tuple(b for b in range(many) if b != a) for a in range(many))
            self.assertEqual(web_of(many, all_pairs(many)), due)

    def test_the_last_places_are_tied(self):
        web = web_of(24, [(22, 23), (0, 23)])
        self.assertEqual((web[0], web[22], web[23]), ((23,), (23,), (0, 22)))

    def test_ties_in_any_order_and_either_way_round(self):
        chance = random.Random(4)
        for web in sample_webs():
            ties = ties_of(web)
            chance.shuffle(ties)
            turned = [(b, a) if chance.random() < 0.5 else (a, b) for a, b in ties]
            self.assertEqual(web_of(len(web), turned), web)
            self.assertEqual(web_of(len(web), [(b, a) for a, b in ties]), web)

    def test_the_form_of_a_web(self):
        for web in sample_webs():
            self.assert_web(web, len(web))
        for many in range(1, 25):
            self.assert_web(web_of(many, [(b, a) for a, b in reversed(all_pairs(many))]), many)
            self.assert_web(line_web(many), many)
        for size in range(5):
            self.assert_web(cube_web(size), 2 ** size)

    def test_other_numbers(self):
        for web in sample_webs():
            numbers = other_numbers(len(web))
            other = renumbered(web, numbers)
            for place, tied in enumerate(web):
                self.assertEqual(sorted(numbers[x] for x in tied), list(other[numbers[place]]))


class Ties(unittest.TestCase):
    def test_ordinary(self):
        self.assertEqual(ties_of(((1,), (0, 2), (1, 3), (2,))), [(0, 1), (1, 2), (2, 3)])
        self.assertEqual(ties_of(((),)), [])
        self.assertEqual(ties_of(((), (), ())), [])

    def test_sorted_tuples_the_lesser_place_first(self):
        ties = [(3, 0), (2, 1), (3, 2), (1, 0), (2, 0)]
        told = ties_of(web_of(4, ties))
        self.assertEqual(told, [(0, 1), (0, 2), (0, 3), (1, 2), (2, 3)])
        self.assertIs(type(told), list)
        for tie in told:
            self.assertIs(type(tie), tuple)

    def test_all_ties(self):
        for many in range(1, 25):
            self.assertEqual(ties_of(web_of(many, all_pairs(many))), all_pairs(many))

    def test_there_and_back(self):
        for web in sample_webs():
            told = ties_of(web)
            self.assertEqual(told, sorted((a, b) for a in range(len(web)) for b in web[a] if a < b))
            self.assertEqual(web_of(len(web), told), web)


class RefusedWebs(unittest.TestCase):
    def refused(self, many, ties):
        assert_refused(self, NoWeb, web_of, many, ties)

    def test_number_of_places(self):
        for many in (0, 25, 26, 300, -1, -24) + FAR_OFF:
            self.refused(many, [])
        for many in NO_NUMBERS:
            self.refused(many, [])

    def test_no_list_of_ties(self):
        for ties in NO_LISTS:
            self.refused(3, ties)
            self.refused(1, ties)

    def test_a_tie_that_is_no_tuple_of_two(self):
        wrong = [(), (0,), (0, 1, 2), (0, 1, 1), [0, 1], "01", {0: 1, 1: 0}, {0, 1}, range(2), b"01"]
        for tie in wrong + list(NO_NUMBERS) + [0, 1]:
            self.refused(3, [tie])
            self.refused(3, [(0, 1), (1, 2), tie])
            self.refused(3, [tie, (0, 1), (1, 2)])

    def test_a_place_to_itself(self):
        for place in range(3):
            self.refused(3, [(place, place)])
            self.refused(3, [(0, 1), (place, place)])
        self.refused(1, [(0, 0)])

    def test_a_place_that_is_not_there(self):
        for place in (-1, -2, -3, 3, 4, 24, 25) + FAR_OFF:
            for other in range(3):
                self.refused(3, [(place, other)])
                self.refused(3, [(other, place)])
            self.refused(3, [(place, place)])
        self.refused(1, [(0, 1)])
        self.refused(24, [(0, 24)])
        self.refused(24, [(-1, 0)])

    def test_a_place_of_another_kind(self):
        for thing in NO_NUMBERS:
            self.refused(3, [(thing, 2)])
            self.refused(3, [(2, thing)])
            self.refused(3, [(thing, thing)])
            self.refused(3, [(0, 1), (thing, 2)])
        self.refused(3, [(True, False)])
        self.refused(3, [(False, True)])

    def test_a_tie_twice(self):
        for first, second in (((0, 1), (0, 1)), ((0, 1), (1, 0)), ((1, 0), (0, 1)), ((2, 1), (2, 1))):
            self.refused(3, [first, second])
            self.refused(3, [first, (0, 2), second])
        self.refused(24, all_pairs(24) + [(22, 23)])
        self.refused(24, [(23, 22)] + all_pairs(24))

    def test_several_faults_at_once(self):
        self.refused(0, None)
        self.refused(None, None)
        self.refused("3", [("0", 1)])
        self.refused(25, [(0, 0), (0, 0)])


class Lines(unittest.TestCase):
    def test_ordinary(self):
        self.assertEqual(line_web(1), ((),))
        self.assertEqual(line_web(2), ((1,), (0,)))
        self.assertEqual(line_web(4), ((1,), (0, 2), (1, 3), (2,)))

    def test_each_tied_to_the_next_one(self):
        for many in range(1, 25):
            self.assertEqual(len(line_web(many)), many)
            self.assertEqual(ties_of(line_web(many)), [(k, k + 1) for k in range(many - 1)])

    def test_refused(self):
        for many in (0, 25, 26, -1, -25) + FAR_OFF + NO_NUMBERS:
            assert_refused(self, NoWeb, line_web, many)


class Grids(unittest.TestCase):
    def test_ordinary(self):
        self.assertEqual(grid_web(1, 1), ((),))
        self.assertEqual(grid_web(3, 2), ((1, 3), (0, 2, 4), (1, 5), (0, 4), (1, 3, 5), (2, 4)))
        self.assertEqual(grid_web(2, 3), ((1, 2), (0, 3), (0, 3, 4), (1, 2, 5), (2, 5), (3, 4)))

    def test_one_row_and_one_column(self):
        for many in range(1, 25):
            self.assertEqual(grid_web(many, 1), line_web(many))
            self.assertEqual(grid_web(1, many), line_web(many))

    def test_every_grid(self):
        for wide in range(1, 25):
            for high in range(1, 24 // wide + 1):
                spots = [(x, y) for y in range(high) for x in range(wide)]
                due = tuple(
                    tuple(
                        v * wide + u
                        for u, v in spots
                        if abs(u - x) + abs(v - y) == 1
                    )
                    for x, y in spots
                )
                self.assertEqual(grid_web(wide, high), due)

    def test_just_24_places(self):
        for wide, high in ((1, 24), (2, 12), (3, 8), (4, 6), (6, 4), (8, 3), (12, 2), (24, 1)):
            self.assertEqual(len(grid_web(wide, high)), 24)
            self.assertEqual(len(ties_of(grid_web(wide, high))), (wide - 1) * high + wide * (high - 1))

    def test_refused(self):
        for wide, high in ((5, 5), (25, 1), (1, 25), (13, 2), (2, 13), (24, 2), (24, 24)):
            assert_refused(self, NoWeb, grid_web, wide, high)
        for number in (0, -1, -3, 25) + FAR_OFF + NO_NUMBERS:
            assert_refused(self, NoWeb, grid_web, number, 1)
            assert_refused(self, NoWeb, grid_web, 1, number)
            assert_refused(self, NoWeb, grid_web, number, number)
        assert_refused(self, NoWeb, grid_web, -2, -3)
        assert_refused(self, NoWeb, grid_web, 0, 25)
        assert_refused(self, NoWeb, grid_web, 3, "a")
        assert_refused(self, NoWeb, grid_web, [0], 2)


class Cubes(unittest.TestCase):
    def test_ordinary(self):
        self.assertEqual(cube_web(0), ((),))
        self.assertEqual(cube_web(1), ((1,), (0,)))
        self.assertEqual(cube_web(2), ((1, 2), (0, 3), (0, 3), (1, 2)))

    def test_every_cube(self):
        for size in range(5):
            many = 2 ** size
            due = tuple(
                tuple(b for b in range(many) if bin(a ^ b).count("1") == 1) for a in range(many)
            )
            self.assertEqual(cube_web(size), due)

    def test_refused(self):
        for size in (5, 6, -1, -2, -5) + FAR_OFF + NO_NUMBERS:
            assert_refused(self, NoWeb, cube_web, size)


class Trees(unittest.TestCase):
    def test_ordinary(self):
        self.assertEqual(tree_web([]), ((),))
        self.assertEqual(tree_web([0]), ((1,), (0,)))
        self.assertEqual(tree_web([0, 0, 1, 1]), ((1, 2), (0, 3, 4), (0,), (1,), (1,)))

    def test_23_numbers(self):
        self.assertEqual(tree_web(list(range(23))), line_web(24))
        self.assertEqual(ties_of(tree_web([0] * 23)), [(0, k) for k in range(1, 24)])

    def test_every_length(self):
        for many in range(1, 25):
            parents = [k * k % (k + 1) // 2 for k in range(many - 1)]
            ties = [(parent, k + 1) for k, parent in enumerate(parents)]
            self.assertEqual(tree_web(parents), web_of(many, ties))

    def test_refused_for_no_list(self):
        for parents in NO_LISTS + ((0,), (0, 0), "00", {0: 0}, range(1), 5):
            assert_refused(self, NoWeb, tree_web, parents)

    def test_refused_for_its_length(self):
        assert_refused(self, NoWeb, tree_web, [0] * 24)
        assert_refused(self, NoWeb, tree_web, list(range(24)))
        assert_refused(self, NoWeb, tree_web, [0] * 300)

    def test_refused_for_a_number_at_any_place(self):
        for many in (1, 2, 5, 23):
            for k in range(many):
                for number in (k + 1, k + 2, 24, -1, -2) + FAR_OFF + NO_NUMBERS:
                    for parents in (list(range(many)), [0] * many):
                        parents[k] = number
                        assert_refused(self, NoWeb, tree_web, parents)

    def test_refused_for_a_later_place_though_the_ties_would_make_a_web(self):
        for parents in ([2, 0], [0, 3, 1], [3, 0, 0], [0] * 21 + [23, 0]):
            assert_refused(self, NoWeb, tree_web, parents)


class HandedInAndTold(unittest.TestCase):
    def test_ties_are_not_changed(self):
        ties = [(2, 1), (0, 1), (3, 2)]
        web_of(4, ties)
        self.assertEqual(ties, [(2, 1), (0, 1), (3, 2)])

    def test_refused_ties_are_not_changed(self):
        ties = [(2, 1), (1, 2), [0]]
        assert_refused(self, NoWeb, web_of, 4, ties)
        self.assertEqual(ties, [(2, 1), (1, 2), [0]])

    def test_ties_may_be_changed_behind(self):
        ties = [(0, 1), (1, 2)]
        web = web_of(3, ties)
        ties.append((0, 2))
        ties[0] = None
        self.assertEqual(web, ((1,), (0, 2), (1,)))
        self.assertEqual(web_of(3, [(0, 1), (1, 2)]), web)

    def test_parents_are_not_changed_and_may_be_changed_behind(self):
        parents = [0, 0, 1]
        web = tree_web(parents)
        self.assertEqual(parents, [0, 0, 1])
        parents[0] = 7
        parents.append(0)
        self.assertEqual(web, ((1, 2), (0, 3), (0,), (1,)))
        self.assertEqual(tree_web([0, 0, 1]), web)

    def test_ties_told_may_be_changed(self):
        web = line_web(4)
        told = ties_of(web)
        told[0] = None
        told.clear()
        self.assertEqual(ties_of(web), [(0, 1), (1, 2), (2, 3)])
        self.assertEqual(web, ((1,), (0, 2), (1, 3), (2,)))


if __name__ == "__main__":
    unittest.main()
