import functools
import itertools
import random
import unittest

from middleweb.classes import classes
from middleweb.errors import NoFit, NotClosed, TooMany
from middleweb.joins import filled, glued, kept_part, side_by_side, unfilled
from middleweb.verdict import looked
from middleweb.webs import cube_web, grid_web, line_web, ties_of, tree_web, web_of
from tests.helper import (
    all_parts,
    assert_not_closed,
    assert_refused,
    assert_web,
    closed_parts,
    due_word,
    middlewebs,
    other_numbers,
    reckoned_fars,
    reckoned_halves,
    reckoned_middles,
    renamed,
    renumbered,
    small_middlewebs,
    some_places,
)


class SideBySide(unittest.TestCase):
    def test_lines_make_grids_and_cubes_make_cubes(self):
        for high in range(1, 25):
            for wide in range(1, 24 // high + 1):
                self.assertEqual(side_by_side(line_web(high), line_web(wide)), grid_web(wide, high))
        for size in range(5):
            for other in range(5 - size):
                self.assertEqual(side_by_side(cube_web(size), cube_web(other)), cube_web(size + other))

    def test_written_out(self):
        told = side_by_side(line_web(2), tree_web([0, 0, 0]))
        due = [(0, 1), (0, 2), (0, 3), (0, 4), (1, 5), (2, 6), (3, 7), (4, 5), (4, 6), (4, 7)]
        self.assertEqual(ties_of(told), due)
        told = side_by_side(tree_web([0, 0, 0]), line_web(2))
        due = [(0, 1), (0, 2), (0, 4), (0, 6), (1, 3), (1, 5), (1, 7), (2, 3), (4, 5), (6, 7)]
        self.assertEqual(ties_of(told), due)

    def test_the_web_of_one_place_beside_another(self):
        for web in middlewebs():
            self.assertEqual(side_by_side(line_web(1), web), web)
            self.assertEqual(side_by_side(web, line_web(1)), web)

    def test_every_two_that_are_let_in(self):
        for one, other in itertools.product(small_middlewebs(), repeat=2):
            if len(one) * len(other) > 24:
                assert_refused(self, TooMany, side_by_side, one, other)
                continue
            told = side_by_side(one, other)
            assert_web(self, told)
            many = len(other)
            self.assertEqual(len(told), len(one) * many)
            for a, b in itertools.product(range(len(one)), range(many)):
                due = [a * many + d for d in other[b]] + [c * many + b for c in one[a]]
                self.assertEqual(told[a * many + b], tuple(sorted(due)))
            self.assertEqual(looked(told)[0], "one")
            self.assertEqual(len(classes(told)), len(classes(one)) + len(classes(other)))

    def test_24_places(self):
        for one, other in ((line_web(1), line_web(24)), (grid_web(4, 6), line_web(1)), (cube_web(3), line_web(3))):
            self.assertEqual(len(side_by_side(one, other)), 24)
        told = side_by_side(tree_web([0, 0, 0]), grid_web(3, 2))
        self.assertEqual((len(told), due_word(reckoned_fars(told))), (24, "one"))

    def test_too_many(self):
        assert_refused(self, TooMany, side_by_side, line_web(5), line_web(5))
        assert_refused(self, TooMany, side_by_side, line_web(13), line_web(2))
        assert_refused(self, TooMany, side_by_side, line_web(2), line_web(13))
        assert_refused(self, TooMany, side_by_side, line_web(24), line_web(2))
        assert_refused(self, TooMany, side_by_side, line_web(24), line_web(24))
        assert_refused(self, TooMany, side_by_side, cube_web(4), cube_web(1))

    def test_other_numbers(self):
        for one, other in ((line_web(4), tree_web([0, 0, 1, 1])), (cube_web(3), line_web(3)), (cube_web(2),) * 2):
            many = len(other)
            first, second = other_numbers(len(one)), other_numbers(many)
            told = side_by_side(renumbered(one, first), renumbered(other, second))
            numbers = [first[a] * many + second[b] for a in range(len(one)) for b in range(many)]
            self.assertEqual(told, renumbered(side_by_side(one, other), numbers))


def reckoned_glued(one, part, other, mates):
    """The webs' places by names, mates by those of their places; numbered when all are named."""
    names = [("other", y) for y in range(len(other))]
    for place, mate in zip(part, mates, strict=True):
        names[mate] = ("one", place)
    order = [("one", x) for x in range(len(one))] + [name for name in names if name[0] == "other"]
    ties = {frozenset([("one", a), ("one", b)]) for a, b in ties_of(one)}
    ties |= {frozenset([names[a], names[b]]) for a, b in ties_of(other)}
    return web_of(len(order), sorted(tuple(sorted(order.index(name) for name in tie)) for tie in ties))


def first_misfit(one, part, other, mates):
    for i, j in itertools.combinations(range(len(part)), 2):
        if (part[j] in one[part[i]]) != (mates[j] in other[mates[i]]):
            return (i, j)
    return None


class Glued(unittest.TestCase):
    def assert_glued(self, one, part, other, mates):
        told = glued(one, part, other, mates)
        assert_web(self, told)
        self.assertEqual(told, reckoned_glued(one, part, other, mates))
        self.assertEqual(len(told), len(one) + len(other) - len(part))
        self.assertEqual(looked(told)[0], "one")

    def test_written_out(self):
        self.assertEqual(glued(line_web(1), [0], line_web(1), [0]), line_web(1))
        self.assertEqual(glued(line_web(3), [2], line_web(3), [0]), line_web(5))
        self.assertEqual(glued(line_web(2), [0], line_web(3), [1]), tree_web([0, 0, 0]))
        self.assertEqual(glued(cube_web(2), [2, 3], cube_web(2), [0, 1]), grid_web(2, 3))
        self.assertEqual(glued(grid_web(3, 2), [3, 4, 5], grid_web(3, 3), [0, 1, 2]), grid_web(3, 4))

    def test_the_numbers_of_the_other_places(self):
        # The line 0 1 2 3 4 by its place 2 at the place 0 of a line: 0 1 3 4 become 2 3 4 5 there.
        told = glued(line_web(2), [0], line_web(5), [2])
        self.assertEqual(ties_of(told), [(0, 1), (0, 3), (0, 4), (2, 3), (4, 5)])
        told = glued(cube_web(2), [1, 3], cube_web(2), [3, 2])
        self.assertEqual(ties_of(told), [(0, 1), (0, 2), (1, 3), (1, 5), (2, 3), (3, 4), (4, 5)])

    def test_mates_in_any_order(self):
        due = {
            (0, 1): [(0, 1), (0, 2), (1, 3), (2, 3)],
            (1, 0): [(0, 1), (0, 3), (1, 2), (2, 3)],
            (1, 3): [(0, 1), (0, 2), (1, 3), (2, 3)],
            (3, 1): [(0, 1), (0, 3), (1, 2), (2, 3)],
        }
        for mates, ties in due.items():
            self.assertEqual(ties_of(glued(line_web(2), [0, 1], cube_web(2), list(mates))), ties)

    def test_at_one_place(self):
        chance = random.Random(23)
        for one, other in itertools.product(small_middlewebs(), repeat=2):
            self.assert_glued(one, [chance.randrange(len(one))], other, [chance.randrange(len(other))])

    def test_along_a_tie(self):
        for one, other in itertools.product(small_middlewebs()[1::3], repeat=2):
            for tie in ties_of(one)[::5]:
                for mates in ties_of(other)[::5]:
                    self.assert_glued(one, list(tie), other, list(mates))
                    self.assert_glued(one, list(tie), other, [mates[1], mates[0]])

    def test_along_a_half(self):
        for web in small_middlewebs():
            numbers = other_numbers(len(web))
            for half in reckoned_halves(web):
                self.assert_glued(web, half, web, half)
                self.assert_glued(web, half, renumbered(web, numbers), [numbers[x] for x in half])

    def test_along_all_places(self):
        for web in middlewebs():
            all_places = list(range(len(web)))
            self.assertEqual(glued(web, all_places, web, all_places), web)
            numbers = other_numbers(len(web))
            self.assertEqual(glued(web, all_places, renumbered(web, numbers), numbers), web)

    def test_every_part_and_mates_of_two_webs(self):
        fits = 0
        for one, other in ((cube_web(2), grid_web(3, 2)), (tree_web([0, 0, 1]), grid_web(2, 2))):
            for part in closed_parts(one):
                for mates in itertools.permutations(range(len(other)), len(part)):
                    if tuple(sorted(mates)) not in closed_parts(other):
                        assert_not_closed(self, other, mates, glued, one, list(part), other, list(mates))
                    elif first_misfit(one, part, other, mates):
                        refusal = assert_refused(self, NoFit, glued, one, list(part), other, list(mates))
                        self.assertEqual(refusal.pair, first_misfit(one, part, other, mates))
                    else:
                        fits += 1
                        self.assert_glued(one, list(part), other, list(mates))
        self.assertGreater(fits, 50)

    def test_a_part_that_is_not_closed(self):
        assert_not_closed(self, line_web(3), [0, 2], glued, line_web(3), [0, 2], line_web(2), [0, 1])
        assert_not_closed(self, cube_web(3), [0, 7], glued, cube_web(3), [0, 7], line_web(2), [0, 1])

    def test_mates_that_are_not_closed(self):
        for mates in ([0, 3], [3, 0]):
            assert_not_closed(self, line_web(4), mates, glued, line_web(2), [0, 1], line_web(4), mates)
        for mates in itertools.permutations([0, 1, 3]):
            assert_not_closed(self, cube_web(2), mates, glued, line_web(3), [0, 1, 2], cube_web(2), list(mates))

    def test_mates_that_do_not_fit(self):
        line = line_web(4)
        due = {
            (1, 0, 2, 3): (0, 2),
            (0, 1, 3, 2): (1, 2),
            (0, 2, 1, 3): (0, 1),
            (2, 1, 0, 3): (0, 3),
            (3, 0, 1, 2): (0, 1),
        }
        for mates, pair in due.items():
            refusal = assert_refused(self, NoFit, glued, line, [0, 1, 2, 3], line, list(mates))
            self.assertEqual(refusal.pair, pair)
            self.assertIs(type(refusal.pair), tuple)
        refusal = assert_refused(self, NoFit, glued, line, [0, 1, 2, 3], cube_web(2), [0, 1, 3, 2])
        self.assertEqual(refusal.pair, (0, 3))
        refusal = assert_refused(self, NoFit, glued, cube_web(2), [0, 1, 2, 3], tree_web([0, 0, 0]), [0, 1, 2, 3])
        self.assertEqual(refusal.pair, (0, 3))

    def test_places_in_the_lists_not_places_of_the_webs(self):
        refusal = assert_refused(self, NoFit, glued, line_web(9), [5, 6, 7, 8], line_web(9), [2, 3, 5, 4])
        self.assertEqual(refusal.pair, (1, 2))

    def test_24_places(self):
        self.assertEqual(glued(line_web(12), [11], line_web(13), [0]), line_web(24))
        self.assertEqual(glued(line_web(24), [5], line_web(1), [0]), line_web(24))
        self.assertEqual(glued(line_web(1), [0], line_web(24), [0]), line_web(24))
        self.assertEqual(glued(grid_web(4, 3), [8, 9, 10, 11], grid_web(4, 4), [0, 1, 2, 3]), grid_web(4, 6))
        self.assert_glued(cube_web(4), list(range(8)), cube_web(4), list(range(8)))

    def test_too_many(self):
        assert_refused(self, TooMany, glued, line_web(13), [0], line_web(13), [0])
        assert_refused(self, TooMany, glued, line_web(24), [3], line_web(2), [1])
        assert_refused(self, TooMany, glued, line_web(2), [1], line_web(24), [3])
        assert_refused(self, TooMany, glued, line_web(13), [0, 1], line_web(14), [0, 1])
        assert_refused(self, TooMany, glued, cube_web(4), [0, 1, 2, 3], cube_web(4), [0, 1, 2, 3])
        assert_refused(self, TooMany, glued, grid_web(4, 6), [0], grid_web(4, 6), [0])

    def test_the_part_goes_ahead_of_the_mates(self):
        # The two webs are numbered otherwise, so what is told of the one doesn't fit the other.
        one, other = line_web(4), web_of(4, [(0, 1), (1, 3), (3, 2)])
        assert_not_closed(self, one, [0, 2], glued, one, [0, 2], other, [0, 3])
        assert_not_closed(self, other, [0, 3], glued, one, [0, 1], other, [0, 3])
        assert_not_closed(self, other, [3, 0], glued, one, [0, 1], other, [3, 0])

    def test_not_closed_goes_ahead_of_no_fit_and_too_many(self):
        # Two places are tied in the one web alone, but where both lists aren't closed.
        line, grid = line_web(24), grid_web(4, 6)
        assert_not_closed(self, line, [0, 2], glued, line, [0, 2], line, [0, 1])
        assert_not_closed(self, line, [0, 2], glued, line, [0, 2], line, [0, 2])
        assert_not_closed(self, grid, [0, 5], glued, line, [0, 1], grid, [0, 5])
        assert_not_closed(self, grid, [5, 0], glued, line, [0, 1], grid, [5, 0])

    def test_no_fit_goes_ahead_of_too_many(self):
        refusal = assert_refused(self, NoFit, glued, line_web(24), [0, 1, 2], line_web(24), [1, 0, 2])
        self.assertEqual(refusal.pair, (0, 2))
        refusal = assert_refused(self, NoFit, glued, cube_web(4), [0, 1, 2, 3], cube_web(4), [0, 1, 3, 2])
        self.assertEqual(refusal.pair, (0, 2))

    def test_a_middleweb_by_every_three(self):
        told = glued(grid_web(3, 3), [4, 5, 7, 8], cube_web(3), [1, 5, 3, 7])
        self.assertEqual((len(told), due_word(reckoned_fars(told))), (13, "one"))


@functools.lru_cache(maxsize=None)
def middle_table(web):
    told = reckoned_fars(web)
    threes = itertools.combinations(range(len(web)), 3)
    return {three: reckoned_middles(told, *three)[0] for three in threes}


def has_all_middles(web, part):
    table = middle_table(web)
    return all(table[three] in part for three in itertools.combinations(part, 3))


@functools.lru_cache(maxsize=None)
def full_parts(web):
    """The parts that have all their middles."""
    return tuple(tuple(part) for part in all_parts(len(web)) if has_all_middles(web, part))


class Unfilled(unittest.TestCase):
    def assert_unfilled(self, web, part, told):
        self.assertEqual((type(told), len(told)), (tuple, 3))
        for x in told:
            self.assertIn(x, part)
        self.assertNotIn(middle_table(web)[tuple(sorted(told))], part)

    def test_written_out(self):
        self.assertEqual(sorted(unfilled(tree_web([0, 0, 0]), [1, 2, 3])), [1, 2, 3])
        self.assertEqual(sorted(unfilled(grid_web(3, 3), [0, 2, 7])), [0, 2, 7])
        self.assertEqual(sorted(unfilled(cube_web(3), [3, 5, 6])), [3, 5, 6])
        self.assertEqual(sorted(unfilled(cube_web(3), [1, 2, 4, 7])), [1, 2, 4])

    def test_parts_that_are_not_closed_but_have_all_their_middles(self):
        self.assertIsNone(unfilled(line_web(9), [0, 4, 8]))
        self.assertIsNone(unfilled(cube_web(2), [0, 1, 3]))
        self.assertIsNone(unfilled(cube_web(3), [0, 7]))
        self.assertIsNone(unfilled(grid_web(3, 3), [0, 2, 6, 8]))

    def test_none_one_and_two_places(self):
        for web in middlewebs():
            self.assertIsNone(unfilled(web, []))
            for x in range(len(web)):
                self.assertIsNone(unfilled(web, [x]))
                self.assertIsNone(unfilled(web, sorted({x, 0})))

    def test_closed_parts(self):
        for web in small_middlewebs():
            for part in closed_parts(web):
                self.assertIsNone(unfilled(web, list(part)))
        for web in middlewebs():
            self.assertIsNone(unfilled(web, list(range(len(web)))))
            for half in reckoned_halves(web):
                self.assertIsNone(unfilled(web, half))

    def test_every_part_of_small_webs(self):
        for web in small_middlewebs():
            full = full_parts(web)
            for part in all_parts(len(web))[::2] + all_parts(len(web))[1::6]:
                told = unfilled(web, part)
                if tuple(part) in full:
                    self.assertIsNone(told)
                else:
                    self.assert_unfilled(web, part, told)

    def test_one_place_left_out_of_many(self):
        for web in middlewebs():
            for gone in range(0, len(web), 2):
                part = [x for x in range(len(web)) if x != gone]
                told = unfilled(web, part)
                if has_all_middles(web, part):
                    self.assertIsNone(told)
                else:
                    self.assert_unfilled(web, part, told)


class Filled(unittest.TestCase):
    def test_written_out(self):
        self.assertEqual(filled(tree_web([0, 0, 0]), [3, 1, 2]), [0, 1, 2, 3])
        self.assertEqual(filled(line_web(9), [8, 0, 4]), [0, 4, 8])
        self.assertEqual(filled(grid_web(3, 3), [0, 2, 7]), [0, 1, 2, 7])
        self.assertEqual(filled(grid_web(3, 3), [0, 8]), [0, 8])
        self.assertEqual(filled(cube_web(3), [3, 5, 6]), [3, 5, 6, 7])
        self.assertEqual(filled(cube_web(3), [1, 2, 4, 7]), list(range(8)))

    def test_of_none(self):
        for web in middlewebs():
            self.assertEqual(filled(web, []), [])

    def test_of_one_and_two_places(self):
        for web in middlewebs():
            for x in range(len(web)):
                self.assertEqual(filled(web, [x, x]), [x])
                self.assertEqual(filled(web, [x, 0]), sorted({x, 0}))

    def test_twice_and_in_any_order(self):
        for some in itertools.permutations([7, 0, 2, 7]):
            self.assertEqual(filled(grid_web(3, 3), list(some)), [0, 1, 2, 7])

    def test_middles_of_middles(self):
        # No three of these have the middle 6; it comes by the middles of others.
        some = [0, 3, 5, 14]
        self.assertNotIn(6, [middle_table(cube_web(4))[three] for three in itertools.combinations(some, 3)])
        self.assertEqual(filled(cube_web(4), some), [0, 1, 2, 3, 4, 5, 6, 7, 14])

    def test_the_least_with_all_its_middles(self):
        for web in small_middlewebs():
            full = full_parts(web)
            for some in all_parts(len(web))[1::3]:
                told = filled(web, some)
                self.assertIs(type(told), list)
                self.assertIn(tuple(told), full)
                having = [part for part in full if set(some) <= set(part)]
                self.assertEqual(set(told), set.intersection(*[set(part) for part in having]))

    def test_greater_webs(self):
        chance = random.Random(24)
        for web in middlewebs():
            table = middle_table(web)
            for turn in range(6):
                some = some_places(chance, len(web), 7)
                due, before = set(some), None
                while due != before:
                    before = set(due)
                    due |= {table[three] for three in itertools.combinations(sorted(before), 3)}
                told = filled(web, some)
                self.assertEqual(told, sorted(due))
                self.assertIsNone(unfilled(web, told))

    def test_other_numbers(self):
        chance = random.Random(25)
        for web in middlewebs():
            numbers = other_numbers(len(web))
            some = some_places(chance, len(web), 6)
            told = filled(renumbered(web, numbers), [numbers[x] for x in some])
            self.assertEqual(told, renamed(numbers, filled(web, some)))


def is_in_one_piece(web):
    return None not in reckoned_fars(web)[0]


class KeptPart(unittest.TestCase):
    def test_written_out(self):
        self.assertEqual(kept_part(line_web(5), [1, 2, 3]), line_web(3))
        self.assertEqual(kept_part(line_web(5), [0, 2, 3]), ((), (2,), (1,)))
        self.assertEqual(kept_part(cube_web(3), [1, 3, 5, 7]), cube_web(2))
        self.assertEqual(kept_part(grid_web(3, 3), [0, 1, 2, 5, 8]), line_web(5))
        self.assertEqual(kept_part(grid_web(3, 3), [0, 2, 6, 8]), web_of(4, []))
        self.assertEqual(kept_part(cube_web(3), [0, 1, 2, 4, 7]), web_of(5, [(0, 1), (0, 2), (0, 3)]))

    def test_one_place_and_all_places(self):
        for web in middlewebs():
            self.assertEqual(kept_part(web, list(range(len(web)))), web)
            for x in range(len(web)):
                self.assertEqual(kept_part(web, [x]), ((),))

    def assert_kept(self, web, part):
        told = kept_part(web, part)
        assert_web(self, told)
        due = [(i, j) for i, j in itertools.combinations(range(len(part)), 2) if part[j] in web[part[i]]]
        self.assertEqual((len(told), ties_of(told)), (len(part), due))
        return told

    def test_every_part_of_small_webs(self):
        for web in small_middlewebs():
            for part in all_parts(len(web))[1:]:
                self.assert_kept(web, part)

    def test_parts_of_greater_webs(self):
        chance = random.Random(26)
        for web in middlewebs():
            for turn in range(6):
                self.assert_kept(web, sorted(set(some_places(chance, len(web), 24))))

    def assert_kept_in_one_piece(self, web, part):
        told = self.assert_kept(web, part)
        lengths, kept = reckoned_fars(web), reckoned_fars(told)
        self.assertEqual(looked(told)[0], "one")
        self.assertEqual(kept, [[lengths[x][y] for y in part] for x in part])

    def test_a_middleweb_again(self):
        seen = 0
        for web in small_middlewebs():
            for part in full_parts(web)[1::2]:
                if is_in_one_piece(kept_part(web, list(part))):
                    self.assert_kept_in_one_piece(web, list(part))
                    seen += part not in closed_parts(web)
        self.assertGreater(seen, 50)

    def test_greater_parts_with_all_their_middles(self):
        chance = random.Random(27)
        for web in middlewebs():
            for turn in range(4):
                part = filled(web, some_places(chance, len(web), 2 * len(web)))
                if is_in_one_piece(kept_part(web, part)):
                    self.assert_kept_in_one_piece(web, part)


class HandedInAndTold(unittest.TestCase):
    def test_lists_handed_in_are_not_changed(self):
        web = grid_web(3, 3)
        part, mates, some, three = [0, 1], [3, 1], [7, 2, 0, 7], [0, 2, 7]
        glued(web, part, cube_web(2), mates)
        kept_part(web, three)
        unfilled(web, three)
        filled(web, some)
        self.assertEqual((part, mates, some, three), ([0, 1], [3, 1], [7, 2, 0, 7], [0, 2, 7]))

    def test_lists_of_a_refused_call_are_not_changed(self):
        part, mates = [0, 1, 2], [2, 0, 1]
        assert_refused(self, NoFit, glued, line_web(3), part, line_web(3), mates)
        assert_refused(self, NotClosed, glued, line_web(4), part, cube_web(2), mates)
        assert_refused(self, TooMany, glued, line_web(24), part, line_web(24), [5, 4, 3])
        self.assertEqual((part, mates), ([0, 1, 2], [2, 0, 1]))

    def test_lists_handed_in_may_be_changed_behind(self):
        web = grid_web(3, 3)
        part, mates, some, three = [0, 1], [1, 0], [7, 2, 0], [0, 2, 7]
        told = glued(cube_web(2), part, line_web(3), mates), filled(web, some), kept_part(web, three)
        kept = ((1, 2, 4), (0, 3), (0, 3), (1, 2), (0,)), [0, 1, 2, 7], ((), (), ())
        for handed in (part, mates, some, three):
            handed.clear()
        self.assertEqual(told, kept)
        again = glued(cube_web(2), [0, 1], line_web(3), [1, 0]), filled(web, [7, 2, 0]), kept_part(web, [0, 2, 7])
        self.assertEqual(again, kept)

    def test_the_field_of_a_refusal_is_kept(self):
        part, mates = [0, 1, 2, 3], [0, 1, 3, 2]
        refusal = assert_refused(self, NoFit, glued, line_web(4), part, line_web(4), mates)
        part.clear()
        mates.clear()
        self.assertEqual(refusal.pair, (1, 2))

    def test_a_filled_part_is_not_the_list_handed_in(self):
        for some, due in (([], []), ([2], [2]), ([0, 1, 3], [0, 1, 3])):
            told = filled(line_web(4), some)
            told.append(99)
            self.assertEqual(some, due)
            self.assertEqual(filled(line_web(4), some), due)

    def test_another_web_asked_between(self):
        told = filled(grid_web(3, 3), [0, 2, 7])
        filled(cube_web(3), [3, 5, 6])
        unfilled(cube_web(3), [3, 5, 6])
        self.assertEqual(told, [0, 1, 2, 7])
        self.assertEqual(filled(grid_web(3, 3), [0, 2, 7]), told)


if __name__ == "__main__":
    unittest.main()
