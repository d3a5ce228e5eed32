import itertools
import unittest

from middleweb.cubes import cube_counts
from middleweb.doublings import doubled
from middleweb.joins import glued, kept_part, side_by_side
from middleweb.webs import cube_web, grid_web, line_web, ties_of, tree_web
from tests.helper import middlewebs, other_numbers, renumbered, small_middlewebs, some_parts


def fits_on(web, pattern, chosen):
    """Whether the places chosen so far can be gone on with, until the web is the pattern by other numbers."""
    k = len(chosen)
    if k == len(pattern):
        return True
    for x in range(len(web)):
        if x not in chosen and all((x in web[y]) == (k in pattern[j]) for j, y in enumerate(chosen)):
            if fits_on(web, pattern, chosen + [x]):
                return True
    return False


def counts_by_all_parts(web):
    """Each part of so many places that is, kept, the cube by other numbers."""
    counts = []
    for size in range(5):
        cube = cube_web(size)
        parts = itertools.combinations(range(len(web)), len(cube))
        counts.append(sum(fits_on(kept_part(web, list(part)), cube, []) for part in parts))
    return counts[:max(size for size in range(5) if counts[size]) + 1]


def are_facing(web, one, other):
    """Whether each place of the one is tied to just one of the other, and such two by two as their own are."""
    facing = {x: [y for y in other if y in web[x]] for x in one}
    if one & other or any(len(found) != 1 for found in facing.values()):
        return False
    return all((y in web[x]) == (facing[y][0] in web[facing[x][0]]) for x in one for y in one)


def counts_by_pairs(web):
    """Cubes of one more of size put together of two, size by size."""
    cubes = [frozenset([x]) for x in range(len(web))]
    counts = []
    while cubes:
        counts.append(len(cubes))
        pairs = itertools.combinations(cubes, 2)
        cubes = sorted({one | other for one, other in pairs if are_facing(web, one, other)}, key=sorted)
    return counts


def multiplied(one, other):
    """How many cubes two webs make side by side, by how many each one has."""
    counts = [0] * (len(one) + len(other) - 1)
    for i, many in enumerate(one):
        for j, others in enumerate(other):
            counts[i + j] += many * others
    return counts


def added(one, other, sign):
    pairs = itertools.zip_longest(one, other, fillvalue=0)
    return [many + sign * more for many, more in pairs]


class CubeCounts(unittest.TestCase):
    def test_the_web_of_one_place(self):
        self.assertEqual(cube_counts(line_web(1)), [1])

    def test_lines(self):
        for many in range(2, 25):
            self.assertEqual(cube_counts(line_web(many)), [many, many - 1])

    def test_trees(self):
        for parents in ([0], [0] * 23, [k // 2 for k in range(23)], [0, 0, 1, 1, 2, 3, 3]):
            self.assertEqual(cube_counts(tree_web(parents)), [len(parents) + 1, len(parents)])

    def test_grids(self):
        for wide in range(2, 13):
            for high in range(2, 24 // wide + 1):
                ties = (wide - 1) * high + wide * (high - 1)
                self.assertEqual(cube_counts(grid_web(wide, high)), [wide * high, ties, (wide - 1) * (high - 1)])

    def test_cubes(self):
        due = ([1], [2, 1], [4, 4, 1], [8, 12, 6, 1], [16, 32, 24, 8, 1])
        for size, counts in enumerate(due):
            web = cube_web(size)
            self.assertEqual(cube_counts(web), counts)
            self.assertEqual(cube_counts(renumbered(web, other_numbers(len(web)))), counts)

    def test_written_out(self):
        self.assertEqual(cube_counts(side_by_side(grid_web(2, 3), line_web(4))), [24, 46, 29, 6])
        self.assertEqual(cube_counts(side_by_side(cube_web(3), line_web(3))), [24, 52, 42, 15, 2])
        # Two squares at one place: three sizes, though no cube of size 3.
        self.assertEqual(cube_counts(glued(cube_web(2), [3], cube_web(2), [0])), [7, 8, 2])
        # Three squares at one tie.
        self.assertEqual(cube_counts(side_by_side(tree_web([0, 0, 0]), line_web(2))), [8, 10, 3])

    def test_by_all_parts(self):
        for web in small_middlewebs():
            self.assertEqual(cube_counts(web), counts_by_all_parts(web))

    def test_by_pairs(self):
        sizes = []
        for web in middlewebs():
            counts = cube_counts(web)
            sizes.append(len(counts))
            self.assertEqual(counts, counts_by_pairs(web))
        self.assertEqual(sorted(set(sizes)), [1, 2, 3, 4, 5])

    def test_places_and_ties(self):
        for web in middlewebs():
            self.assertEqual((cube_counts(web) + [0])[:2], [len(web), len(ties_of(web))])

    def test_by_turns_with_plus_and_minus(self):
        for web in middlewebs():
            counts = cube_counts(web)
            self.assertEqual(sum(counts[::2]) - sum(counts[1::2]), 1)

    def test_up_to_the_last_that_is_not_0(self):
        for web in middlewebs():
            self.assertTrue(all(many > 0 for many in cube_counts(web)))

    def test_of_what_is_put_together(self):
        for web in small_middlewebs():
            counts = cube_counts(web)
            self.assertEqual(cube_counts(side_by_side(web, line_web(2))), multiplied(counts, [2, 1]))
            for part in some_parts(web):
                kept = cube_counts(kept_part(web, part))
                # Twins have the cubes that their own places have, and each of these is one face of a new cube.
                due = added(added(counts, kept, 1), [0] + kept, 1)
                self.assertEqual(cube_counts(doubled(web, part)), due)
                self.assertEqual(cube_counts(glued(web, part, web, part)), added(added(counts, counts, 1), kept, -1))

    def test_other_numbers(self):
        for web in middlewebs():
            counts = cube_counts(web)
            numbers = other_numbers(len(web))
            for turned in (numbers, numbers[::-1], numbers[1:] + numbers[:1], list(range(len(web)))[::-1]):
                self.assertEqual(cube_counts(renumbered(web, turned)), counts)

    def test_webs_of_24_places(self):
        webs = [web for web in middlewebs() if len(web) == 24]
        self.assertGreater(len(webs), 5)
        for web in webs:
            due = counts_by_pairs(web)
            for first in range(24):
                turned = [(first + x * 5) % 24 for x in range(24)]
                self.assertEqual(cube_counts(renumbered(web, turned)), due)

    def test_kinds(self):
        for web in middlewebs():
            told = cube_counts(web)
            self.assertEqual((type(told), {type(many) for many in told}), (list, {int}))

    def test_what_is_told_may_be_changed(self):
        for turn in range(2):
            told = cube_counts(cube_web(2))
            self.assertEqual(told, [4, 4, 1])
            told.append(9)
            told[0] = "changed"
            self.assertEqual(cube_counts(line_web(1)), [1])


if __name__ == "__main__":
    unittest.main()
