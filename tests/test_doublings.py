import random
import unittest

from middleweb.classes import classes
from middleweb.doublings import doubled, folded, grown, unfolded
from middleweb.errors import NotClosed, TooMany
from middleweb.verdict import looked
from middleweb.ways import fars
from middleweb.webs import cube_web, grid_web, line_web, ties_of, tree_web, web_of
from tests.helper import (
    all_parts,
    assert_not_closed,
    assert_refused,
    assert_web,
    closed_parts,
    due_word,
    is_closed,
    middlewebs,
    other_numbers,
    reckoned_fars,
    reckoned_halves,
    reckoned_hull,
    renamed,
    renumbered,
    ring_web,
    small_middlewebs,
    some_parts,
    some_places,
    twinned,
)

CUBE_PARTS = [[0], [0, 1], [0, 1, 2, 3], [0, 1, 2, 3, 4, 5, 6, 7]]


class Doubled(unittest.TestCase):
    def test_by_one_place(self):
        self.assertEqual(doubled(line_web(1), [0]), line_web(2))
        self.assertEqual(doubled(line_web(3), [2]), line_web(4))
        self.assertEqual(doubled(line_web(3), [1]), ((1,), (0, 2, 3), (1,), (1,)))
        for web in middlewebs():
            if len(web) < 24:
                for x in range(len(web)):
                    self.assertEqual(ties_of(doubled(web, [x])), sorted(ties_of(web) + [(x, len(web))]))

    def test_by_all_places(self):
        self.assertEqual(doubled(line_web(2), [0, 1]), cube_web(2))
        self.assertEqual(doubled(line_web(12), list(range(12))), grid_web(12, 2))
        for size in range(4):
            self.assertEqual(doubled(cube_web(size), list(range(2 ** size))), cube_web(size + 1))

    def test_by_a_half(self):
        self.assertEqual(doubled(grid_web(2, 2), [2, 3]), grid_web(2, 3))
        self.assertEqual(doubled(line_web(4), [2, 3]), ((1,), (0, 2), (1, 3, 4), (2, 5), (2, 5), (3, 4)))
        self.assertEqual(doubled(cube_web(2), [1, 3]), ((1, 2), (0, 3, 4), (0, 3), (1, 2, 5), (1, 5), (3, 4)))

    def test_twins_by_the_order_of_the_part(self):
        # The ring 0 2 1 3, by its side 1 3: the twin of 1 is 4, that of 3 is 5.
        web = web_of(4, [(0, 2), (2, 1), (1, 3), (3, 0)])
        due = [(0, 2), (0, 3), (1, 2), (1, 3), (1, 4), (3, 5), (4, 5)]
        self.assertEqual(ties_of(doubled(web, [1, 3])), due)

    def assert_doubled(self, web, part):
        told = doubled(web, part)
        assert_web(self, told)
        self.assertEqual(told, twinned(web, part))
        self.assertEqual(looked(told)[0], "one")
        self.assertEqual(len(classes(told)), len(classes(web)) + 1)

    def test_every_closed_part_of_small_webs(self):
        for web in small_middlewebs():
            for part in closed_parts(web)[::3]:
                self.assert_doubled(web, list(part))

    def test_greater_webs(self):
        for web in middlewebs()[len(small_middlewebs()):]:
            for part in some_parts(web)[::2]:
                if len(web) + len(part) <= 24:
                    self.assert_doubled(web, part)
                else:
                    assert_refused(self, TooMany, doubled, web, part)

    def test_a_middleweb_by_every_three(self):
        for web, part in ((grid_web(3, 3), [0, 1, 3, 4]), (cube_web(3), [1, 5]), (tree_web([0, 0, 1]), [0, 1, 3])):
            self.assertEqual(due_word(reckoned_fars(doubled(web, part))), "one")

    def test_parts_that_are_not_closed(self):
        for web in small_middlewebs():
            told = reckoned_fars(web)
            for part in all_parts(len(web))[::3]:
                if not is_closed(told, part):
                    assert_not_closed(self, web, part, doubled, web, part)
        refusal = assert_refused(self, NotClosed, doubled, line_web(3), [0, 2])
        self.assertIn(refusal.three, ((0, 2, 1), (2, 0, 1)))

    def test_the_greatest_that_is_let_in(self):
        for web, part in (
            (line_web(23), [22]),
            (tree_web([0] * 22), [0]),
            (cube_web(4), [1, 3, 5, 7, 9, 11, 13, 15]),
            (grid_web(4, 3), list(range(12))),
            (grid_web(4, 5), [16, 17, 18, 19]),
        ):
            self.assert_doubled(web, part)
            self.assertEqual(len(doubled(web, part)), 24)

    def test_too_many(self):
        assert_refused(self, TooMany, doubled, line_web(24), [23])
        assert_refused(self, TooMany, doubled, line_web(23), [21, 22])
        assert_refused(self, TooMany, doubled, line_web(24), list(range(24)))
        assert_refused(self, TooMany, doubled, line_web(13), list(range(13)))
        assert_refused(self, TooMany, doubled, line_web(13), list(range(12)))
        assert_refused(self, TooMany, doubled, cube_web(4), list(range(16)))
        assert_refused(self, TooMany, doubled, grid_web(4, 6), [0, 4])

    def test_not_closed_goes_ahead_of_too_many(self):
        for web, part in (
            (line_web(24), [0, 2]),
            (line_web(23), [0, 22]),
            (grid_web(4, 6), [0, 5]),
            (grid_web(4, 6), list(range(23))),
            (cube_web(4), list(range(15))),
        ):
            assert_not_closed(self, web, part, doubled, web, part)

    def test_other_numbers(self):
        for web in small_middlewebs():
            many = len(web)
            numbers = other_numbers(many)
            for part in closed_parts(web)[::5]:
                # Twins stand in the order of the part, so by other numbers theirs are others too.
                moved = renamed(numbers, part)
                twins = [many + moved.index(numbers[x]) for x in part]
                told = doubled(renumbered(web, numbers), moved)
                self.assertEqual(told, renumbered(doubled(web, list(part)), numbers + twins))


class Grown(unittest.TestCase):
    def test_by_no_part(self):
        self.assertEqual(grown([]), ((),))

    def test_written_out(self):
        self.assertEqual(grown([[0]]), line_web(2))
        self.assertEqual(grown([[0], [1], [2]]), line_web(4))
        self.assertEqual(grown([[0], [0, 1], [2, 3]]), grid_web(2, 3))
        for size in range(5):
            self.assertEqual(grown(CUBE_PARTS[:size]), cube_web(size))
        self.assertEqual(grown([[0], [0], [1], [0, 1]]), twinned(tree_web([0, 0, 1]), [0, 1]))

    def test_many_parts(self):
        self.assertEqual(grown([[k] for k in range(23)]), line_web(24))
        self.assertEqual(grown([[0]] * 23), tree_web([0] * 23))
        self.assertEqual(grown(CUBE_PARTS + [[0, 1, 2, 3, 4, 5, 6, 7]]), twinned(cube_web(4), list(range(8))))

    def test_doubled_in_turn(self):
        chance = random.Random(19)
        for turn in range(40):
            web, parts = line_web(1), []
            for step in range(chance.randint(0, 9)):
                part = reckoned_hull(reckoned_fars(web), some_places(chance, len(web), 3))
                if len(web) + len(part) <= 24:
                    web = twinned(web, part)
                    parts.append(part)
            self.assertEqual(grown(parts), web)
            self.assertEqual(looked(web)[0], "one")
            self.assertEqual(len(classes(web)), len(parts))

    def test_not_closed_in_the_midst(self):
        for behind in ([], [[0]], [[0, 1, 2], [0, 1, 2, 3, 4, 5], [0, 1, 2, 3, 4, 5]]):
            assert_not_closed(self, line_web(3), [0, 2], grown, [[0], [1], [0, 2]] + behind)
        assert_not_closed(self, cube_web(2), [0, 3], grown, [[0], [0, 1], [0, 3], [0]])

    def test_too_many_in_the_midst(self):
        assert_refused(self, TooMany, grown, [[0]] * 24)
        assert_refused(self, TooMany, grown, [[0]] * 300)
        assert_refused(self, TooMany, grown, [[k] for k in range(24)])
        assert_refused(self, TooMany, grown, CUBE_PARTS + [list(range(16))])
        assert_refused(self, TooMany, grown, CUBE_PARTS + [list(range(8)), [0]])

    def test_the_first_that_is_due_goes_first(self):
        assert_refused(self, TooMany, grown, [[0]] * 24 + [[1, 2]])
        assert_refused(self, NotClosed, grown, [[0]] * 3 + [[1, 2]] + [[0]] * 24)
        assert_refused(self, NotClosed, grown, [[0]] * 23 + [[1, 2]])


class Unfolded(unittest.TestCase):
    def assert_unfolded(self, web):
        told = unfolded(web)
        self.assertEqual((type(told), len(told)), (tuple, 2))
        parts, order = told
        self.assertEqual((type(parts), type(order)), (list, list))
        self.assertEqual(sorted(order), list(range(len(web))))
        self.assertEqual({type(x) for x in order}, {int})
        for part in parts:
            self.assertIs(type(part), list)
            self.assertEqual(part, sorted(set(part)))
            self.assertNotEqual(part, [])
        self.assertEqual(len(parts), len(classes(web)))
        self.assertEqual(renumbered(grown(parts), order), web)

    def test_the_web_of_one_place(self):
        self.assertEqual(unfolded(line_web(1)), ([], [0]))

    def test_written_out(self):
        parts, order = unfolded(line_web(2))
        self.assertEqual((parts, sorted(order)), ([[0]], [0, 1]))
        parts, order = unfolded(cube_web(2))
        self.assertEqual((parts, sorted(order)), ([[0], [0, 1]], [0, 1, 2, 3]))
        parts, order = unfolded(cube_web(4))
        self.assertEqual((parts, sorted(order)), (CUBE_PARTS, list(range(16))))

    def test_middlewebs(self):
        for web in middlewebs():
            self.assert_unfolded(web)

    def test_lines_trees_grids_and_cubes(self):
        for many in range(1, 25):
            self.assert_unfolded(line_web(many))
            self.assert_unfolded(tree_web([k // 2 for k in range(many - 1)]))
            for wide in range(1, 24 // many + 1):
                self.assert_unfolded(grid_web(wide, many))
        for size in range(5):
            self.assert_unfolded(cube_web(size))

    def test_24_places_in_any_order(self):
        chance = random.Random(20)
        great = [web for web in middlewebs() if len(web) == 24] + [twinned(cube_web(4), list(range(8)))]
        for web in great:
            numbers = list(range(24))
            for turn in range(3):
                chance.shuffle(numbers)
                self.assert_unfolded(renumbered(web, numbers))

    def test_webs_in_which_no_single_place_is_a_half(self):
        # Squares in a ring round one place: each place is in a square, and each half has two places at least.
        wheel = web_of(13, ties_of(ring_web(12)) + [(k, 12) for k in range(0, 12, 2)])
        for web in (cube_web(3), grid_web(3, 4), wheel, twinned(grid_web(3, 3), [4, 5, 7, 8])):
            self.assertGreater(min(len(half) for half in reckoned_halves(web)), 1)
            self.assert_unfolded(web)
            self.assert_unfolded(renumbered(web, other_numbers(len(web))))


def reckoned_folded(web, taken):
    """Which places become one, by groups in the order of their least places, and which groups are tied."""
    groups = {frozenset([x]) for x in range(len(web)) if not any(x in tie for tie in taken)}
    ordered = sorted(groups | {frozenset(tie) for tie in taken}, key=min)
    becomes = [[x in group for group in ordered].index(True) for x in range(len(web))]
    ties = {tuple(sorted((becomes[a], becomes[b]))) for a, b in ties_of(web) if becomes[a] != becomes[b]}
    return web_of(len(ordered), sorted(ties)), becomes


class Folded(unittest.TestCase):
    def test_written_out(self):
        self.assertEqual(folded(line_web(2), 0), (line_web(1), [0, 0]))
        self.assertEqual(folded(line_web(4), 0), (line_web(3), [0, 0, 1, 2]))
        self.assertEqual(folded(line_web(4), 1), (line_web(3), [0, 1, 1, 2]))
        self.assertEqual(folded(line_web(4), 2), (line_web(3), [0, 1, 2, 2]))
        self.assertEqual(folded(cube_web(2), 1), (line_web(2), [0, 1, 0, 1]))
        self.assertEqual(folded(cube_web(3), 0), (cube_web(2), [0, 0, 1, 1, 2, 2, 3, 3]))
        self.assertEqual(folded(cube_web(3), 2), (cube_web(2), [0, 1, 2, 3, 0, 1, 2, 3]))
        self.assertEqual(folded(grid_web(3, 2), 1), (line_web(3), [0, 1, 2, 0, 1, 2]))

    def test_numbered_as_the_least_places_rise(self):
        # The ring 0 3 1 2 with a tail 4 at 1: of its class (0, 2), (1, 3) the place 3 becomes one with 1, 2 with 0.
        web = web_of(5, [(0, 3), (3, 1), (1, 2), (2, 0), (1, 4)])
        self.assertEqual(folded(web, 0), (((1,), (0, 2), (1,)), [0, 1, 0, 1, 2]))
        self.assertEqual(folded(web, 1), (((1,), (0, 2), (1,)), [0, 1, 1, 0, 2]))
        self.assertEqual(folded(web, 2), (((2, 3), (2, 3), (0, 1), (0, 1)), [0, 1, 2, 3, 1]))

    def test_by_each_class(self):
        for web in middlewebs():
            by_number = classes(web)
            for number, taken in enumerate(by_number):
                told = folded(web, number)
                self.assertEqual(told, reckoned_folded(web, taken))
                self.assertEqual((type(told), type(told[1])), (tuple, list))
                self.assertEqual({type(x) for x in told[1]}, {int})
                assert_web(self, told[0])
                self.assertEqual(len(told[0]), len(web) - len(taken))
                self.assertEqual(len(classes(told[0])), len(by_number) - 1)

    def test_a_middleweb_again(self):
        for web in middlewebs():
            for number in range(0, len(classes(web)), 3):
                self.assertEqual(looked(folded(web, number)[0])[0], "one")
        for web in small_middlewebs()[5:9]:
            self.assertEqual(due_word(reckoned_fars(folded(web, 1)[0])), "one")

    def test_as_far_as_without_the_class(self):
        for web in small_middlewebs():
            told = fars(web)
            for number, taken in enumerate(classes(web)):
                a, b = taken[0]
                small, becomes = folded(web, number)
                lengths = fars(small)
                for x in range(len(web)):
                    for y in range(len(web)):
                        crossed = (told[x][a] < told[x][b]) != (told[y][a] < told[y][b])
                        self.assertEqual(lengths[becomes[x]][becomes[y]], told[x][y] - crossed)

    def test_doubled_and_folded_again(self):
        for web in small_middlewebs():
            for part in closed_parts(web)[::4]:
                twin = (part[0], len(web))
                told = doubled(web, list(part))
                number = [twin in ties for ties in classes(told)].index(True)
                self.assertEqual(folded(told, number), (web, list(range(len(web))) + list(part)))


class HandedInAndTold(unittest.TestCase):
    def test_lists_handed_in_are_not_changed(self):
        part, open_part, parts, bad = [0, 1], [0, 2], [[0], [0, 1], [2, 3]], [[0], [1], [0, 2]]
        doubled(line_web(3), part)
        grown(parts)
        assert_refused(self, NotClosed, doubled, line_web(3), open_part)
        assert_refused(self, NotClosed, grown, bad)
        self.assertEqual((part, open_part), ([0, 1], [0, 2]))
        self.assertEqual((parts, bad), ([[0], [0, 1], [2, 3]], [[0], [1], [0, 2]]))

    def test_lists_handed_in_may_be_changed_behind(self):
        part, parts = [0, 1], [[0], [1]]
        told = doubled(line_web(2), part), grown(parts)
        part.clear()
        parts[0].append(7)
        parts.append([0])
        self.assertEqual(told, (cube_web(2), line_web(3)))
        self.assertEqual((doubled(line_web(2), [0, 1]), grown([[0], [1]])), (cube_web(2), line_web(3)))

    def test_the_field_of_a_refusal_is_kept(self):
        part = [0, 2]
        refusal = assert_refused(self, NotClosed, doubled, line_web(3), part)
        part.clear()
        self.assertIn(refusal.three, ((0, 2, 1), (2, 0, 1)))

    def test_unfolded_may_be_changed_and_the_lists_within(self):
        for web in (line_web(1), cube_web(2), grid_web(3, 3)):
            first, second = unfolded(web), unfolded(web)
            first[0].append("changed")
            first[1].append("changed")
            self.assertEqual(unfolded(web), second)
            for part in second[0]:
                part.append("changed")
            parts, order = unfolded(web)
            self.assertEqual(renumbered(grown(parts), order), web)

    def test_the_parts_told_are_no_one_list(self):
        parts = unfolded(tree_web([0, 0, 0]))[0]
        kept = [list(part) for part in parts]
        parts[0].append(99)
        self.assertEqual(parts[1:], kept[1:])

    def test_folded_may_be_changed(self):
        told = folded(line_web(3), 0)
        told[1].append(99)
        told[1][0] = "changed"
        self.assertEqual(folded(line_web(3), 0), (line_web(2), [0, 0, 1]))

    def test_another_web_asked_between(self):
        web, other = grid_web(3, 2), cube_web(3)
        first, second = unfolded(web), folded(web, 1)
        unfolded(other)
        folded(other, 1)
        grown([[0], [0]])
        self.assertEqual((unfolded(web), folded(web, 1)), (first, second))


if __name__ == "__main__":
    unittest.main()
