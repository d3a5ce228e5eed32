import random
import unittest

from middleweb.classes import halves
from middleweb.going import gathered, going_to, lighter
from middleweb.webs import cube_web, grid_web, line_web, tree_web, web_of
from tests.helper import middlewebs, other_numbers, reckoned_fars, renumbered

MOST_PEOPLE = 10 ** 9


def some_people(chance, many):
    """Few or many people, at few or all of the places."""
    most = chance.choice((1, 2, 5, MOST_PEOPLE))
    share = chance.choice((0.2, 0.6, 1.0))
    return [chance.randint(0, most) if chance.random() < share else 0 for place in range(many)]


def some_cases():
    """Webs with people in them, the same ones each time."""
    chance = random.Random(16)
    cases = []
    for web in middlewebs():
        cases.append((web, [MOST_PEOPLE] * len(web)))
        cases.extend((web, some_people(chance, len(web))) for turn in range(8))
    return cases


def reckoned_goings(web, people):
    told = reckoned_fars(web)
    return [sum(many * told[x][place] for place, many in enumerate(people)) for x in range(len(web))]


class GoingTo(unittest.TestCase):
    def test_written_out(self):
        self.assertEqual([going_to(line_web(4), [1, 0, 0, 2], x) for x in range(4)], [6, 5, 4, 3])
        self.assertEqual(going_to(grid_web(3, 3), [0, 0, 2, 0, 7, 0, 1, 0, 0], 4), 6)
        self.assertEqual(going_to(cube_web(3), [1] * 8, 5), 12)
        self.assertEqual(going_to(tree_web([0, 0, 0]), [0, 5, 3, 2], 1), 10)
        self.assertEqual(going_to(line_web(1), [MOST_PEOPLE], 0), 0)
        self.assertEqual(going_to(line_web(24), [MOST_PEOPLE] + [0] * 23, 23), 23 * MOST_PEOPLE)

    def test_as_reckoned(self):
        for web, people in some_cases():
            told = [going_to(web, people, x) for x in range(len(web))]
            self.assertEqual(told, reckoned_goings(web, people))
            self.assertEqual([type(going) for going in told], [int] * len(web))

    def test_no_people(self):
        for web in middlewebs():
            for x in range(len(web)):
                self.assertEqual(going_to(web, [0] * len(web), x), 0)


class Gathered(unittest.TestCase):
    def test_written_out(self):
        self.assertEqual(gathered(line_web(3), [1, 0, 0]), (0, [0], [(1, 0), (1, 0)]))
        self.assertEqual(gathered(line_web(4), [1, 0, 0, 1]), (3, [0, 1, 2, 3], [(1, 1)] * 3))
        self.assertEqual(gathered(line_web(4), [1, 1, 0, 2]), (5, [1, 2, 3], [(1, 3), (2, 2), (2, 2)]))
        self.assertEqual(gathered(line_web(4), [3, 0, 1, 1]), (5, [0], [(3, 2), (3, 2), (4, 1)]))
        self.assertEqual(gathered(cube_web(2), [1, 0, 0, 1]), (2, [0, 1, 2, 3], [(1, 1), (1, 1)]))
        self.assertEqual(gathered(cube_web(3), [1] * 8), (12, list(range(8)), [(4, 4)] * 3))
        self.assertEqual(gathered(tree_web([0, 0, 0]), [0, 1, 1, 1]), (3, [0], [(2, 1)] * 3))
        self.assertEqual(gathered(tree_web([0, 0, 0]), [0, 2, 1, 1]), (4, [0, 1], [(2, 2), (3, 1), (3, 1)]))

    def test_people_where_nobody_stands_at_the_meeting(self):
        people = [1, 0, 0, 0, 0, 1, 0, 1, 0]
        self.assertEqual(gathered(grid_web(3, 3), people), (4, [4], [(1, 2), (1, 2), (2, 1), (2, 1)]))

    def test_the_first_half_has_the_place_0(self):
        # The line 2 0 1: the tie (0, 2) leads away from 0 as (0, 1) does.
        web = web_of(3, [(0, 1), (0, 2)])
        self.assertEqual(gathered(web, [1, 2, 4]), (5, [2], [(5, 2), (3, 4)]))

    def test_the_web_of_one_place(self):
        for many in (0, 1, 7, MOST_PEOPLE):
            self.assertEqual(gathered(line_web(1), [many]), (0, [0], []))

    def test_no_people(self):
        for web in middlewebs():
            due = (0, list(range(len(web))), [(0, 0)] * len(halves(web)))
            self.assertEqual(gathered(web, [0] * len(web)), due)

    def test_people_at_one_place(self):
        for web in middlewebs():
            for x in range(0, len(web), 5):
                for many in (1, MOST_PEOPLE):
                    people = [many if place == x else 0 for place in range(len(web))]
                    sides = [(many, 0) if x in first else (0, many) for first, second in halves(web)]
                    self.assertEqual(gathered(web, people), (0, [x], sides))

    def test_by_going_through_all_places(self):
        for web, people in some_cases():
            goings = reckoned_goings(web, people)
            going, places, sides = gathered(web, people)
            self.assertEqual(going, min(goings))
            self.assertEqual(places, [x for x, one in enumerate(goings) if one == going])

    def test_by_how_many_are_in_each_half(self):
        for web, people in some_cases():
            going, places, sides = gathered(web, people)
            parted = halves(web)
            due = [tuple(sum(people[x] for x in half) for half in both) for both in parted]
            self.assertEqual(sides, due)
            self.assertEqual(going, sum(min(side) for side in sides))
            left = set(range(len(web)))
            for (first, second), (in_first, in_second) in zip(parted, sides):
                if in_first != in_second:
                    left &= set(first if in_first > in_second else second)
            self.assertEqual(places, sorted(left))

    def test_sides_alike_leave_places_on_both_sides(self):
        seen = 0
        for web, people in some_cases():
            going, places, sides = gathered(web, people)
            for (first, second), (in_first, in_second) in zip(halves(web), sides):
                if in_first == in_second:
                    seen += 1
                    self.assertTrue(set(first) & set(places))
                    self.assertTrue(set(second) & set(places))
        self.assertGreater(seen, 100)

    def test_great_numbers(self):
        almost = MOST_PEOPLE - 1
        told = gathered(line_web(24), [MOST_PEOPLE] + [0] * 22 + [almost])
        self.assertEqual(told, (23 * almost, [0], [(MOST_PEOPLE, almost)] * 23))
        self.assertEqual(gathered(tree_web([0] * 23), [0] + [MOST_PEOPLE] * 23)[:2], (23 * MOST_PEOPLE, [0]))
        self.assertEqual(gathered(grid_web(4, 6), [MOST_PEOPLE] * 24)[:2], (60 * MOST_PEOPLE, [9, 10, 13, 14]))

    def test_kinds(self):
        for web, people in some_cases()[::5]:
            told = gathered(web, people)
            self.assertEqual((type(told), len(told)), (tuple, 3))
            going, places, sides = told
            self.assertEqual((type(going), type(places), type(sides)), (int, list, list))
            self.assertEqual({type(x) for x in places}, {int})
            for side in sides:
                self.assertEqual((type(side), [type(many) for many in side]), (tuple, [int, int]))

    def test_other_numbers(self):
        for web, people in some_cases():
            numbers = other_numbers(len(web))
            moved = [people[numbers.index(x)] for x in range(len(web))]
            going, places, sides = gathered(web, people)
            again = gathered(renumbered(web, numbers), moved)
            self.assertEqual(again[:2], (going, sorted(numbers[x] for x in places)))
            self.assertEqual(sorted(sorted(side) for side in again[2]), sorted(sorted(side) for side in sides))


class Lighter(unittest.TestCase):
    def test_written_out(self):
        web = grid_web(3, 3)
        self.assertEqual(lighter(web, [1] + [0] * 8, 8), 5)
        self.assertEqual(lighter(web, [0] * 8 + [1], 4), 5)
        self.assertEqual(lighter(web, [0] * 8 + [1], 0), 1)
        self.assertEqual(lighter(web, [0] * 8 + [1], 5), 8)
        self.assertIsNone(lighter(web, [0] * 8 + [1], 8))
        self.assertEqual(lighter(line_web(3), [1, 0, 0], 1), 0)

    def test_the_least_place_not_the_one_with_the_least_going(self):
        web, people = grid_web(3, 3), [0, 0, 0, 0, 0, 0, 1, 0, 5]
        self.assertEqual([going_to(web, people, x) for x in (0, 1, 3)], [22, 18, 16])
        self.assertEqual(lighter(web, people, 0), 1)

    def test_a_place_with_as_much_going_is_not_lighter(self):
        self.assertIsNone(lighter(line_web(4), [1, 0, 0, 1], 1))
        self.assertEqual(lighter(grid_web(3, 2), [1, 0, 1, 0, 0, 0], 4), 1)

    def test_the_place_0_may_be_lighter(self):
        self.assertEqual(lighter(line_web(2), [1, 0], 1), 0)
        self.assertEqual(lighter(tree_web([0] * 23), [0, 0] + [1] * 22, 1), 0)

    def test_no_people_and_one_place(self):
        self.assertIsNone(lighter(line_web(1), [0], 0))
        self.assertIsNone(lighter(line_web(1), [MOST_PEOPLE], 0))
        for web in middlewebs():
            for x in range(len(web)):
                self.assertIsNone(lighter(web, [0] * len(web), x))

    def test_as_reckoned_and_none_just_where_the_going_is_least(self):
        several = 0
        for web, people in some_cases():
            goings = reckoned_goings(web, people)
            for x in range(len(web)):
                less = [y for y in web[x] if goings[y] < goings[x]]
                several += len(less) > 1
                told = lighter(web, people, x)
                self.assertEqual(told, min(less) if less else None)
                self.assertEqual(told is None, goings[x] == min(goings))
        self.assertGreater(several, 100)


class HandedInAndTold(unittest.TestCase):
    def test_people_are_not_changed(self):
        for web, people in some_cases()[::7]:
            kept = list(people)
            gathered(web, people)
            going_to(web, people, 0)
            lighter(web, people, 0)
            self.assertEqual(people, kept)

    def test_people_may_be_changed_behind(self):
        web, people = line_web(3), [2, 0, 1]
        told = gathered(web, people)
        people[0] = 0
        people.append(5)
        due = (2, [0], [(2, 1), (2, 1)])
        self.assertEqual(told, due)
        self.assertEqual(gathered(web, [2, 0, 1]), due)
        self.assertEqual(gathered(web, [0, 0, 1]), (0, [2], [(0, 1), (0, 1)]))
        self.assertEqual((going_to(web, [2, 0, 1], 2), lighter(web, [2, 0, 1], 2)), (4, 1))

    def test_lists_told_may_be_changed(self):
        web, people = cube_web(2), [1, 0, 0, 1]
        told = gathered(web, people)
        told[1].append(99)
        told[1][0] = "changed"
        told[2].clear()
        self.assertEqual(gathered(web, people), (2, [0, 1, 2, 3], [(1, 1), (1, 1)]))

    def test_another_web_asked_between(self):
        told = gathered(line_web(3), [2, 0, 1])
        gathered(grid_web(3, 3), [1] * 9)
        gathered(line_web(3), [0, 0, 1])
        self.assertEqual(told, (2, [0], [(2, 1), (2, 1)]))
        self.assertEqual(gathered(line_web(3), [2, 0, 1]), told)


if __name__ == "__main__":
    unittest.main()
