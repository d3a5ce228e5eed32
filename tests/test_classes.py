import itertools
import unittest

from middleweb.classes import bit_rows, classes, halves, middle, place_of
from middleweb.ways import fars, middles
from middleweb.webs import cube_web, grid_web, line_web, ties_of, tree_web, web_of
from tests.helper import middlewebs, other_numbers, reckoned_fars, renumbered, small_middlewebs, unlike_bits

# A ring of four whose numbers don't go round, with a tail.
TAILED = web_of(5, [(0, 3), (3, 1), (1, 2), (2, 0), (1, 4)])


def piece_of(many, ties, start):
    """The places that ways over these ties alone lead to, rising."""
    reached = {start}
    for turn in range(many):
        reached |= {b for a, b in ties if a in reached} | {a for a, b in ties if b in reached}
    return sorted(reached)


def renamed_tie(numbers, tie):
    return tuple(sorted(numbers[x] for x in tie))


class Classes(unittest.TestCase):
    def test_written_out(self):
        self.assertEqual(classes(line_web(1)), [])
        self.assertEqual(classes(line_web(4)), [[(0, 1)], [(1, 2)], [(2, 3)]])
        self.assertEqual(classes(cube_web(2)), [[(0, 1), (2, 3)], [(0, 2), (1, 3)]])
        self.assertEqual(classes(grid_web(3, 2)), [[(0, 1), (3, 4)], [(0, 3), (1, 4), (2, 5)], [(1, 2), (4, 5)]])
        self.assertEqual(classes(TAILED), [[(0, 2), (1, 3)], [(0, 3), (1, 2)], [(1, 4)]])

    def test_kinds_and_order(self):
        for web in middlewebs():
            told = classes(web)
            self.assertIs(type(told), list)
            for one in told:
                self.assertIs(type(one), list)
                self.assertEqual(one, sorted(one))
                for tie in one:
                    self.assertIs(type(tie), tuple)
                    self.assertLess(tie[0], tie[1])
            firsts = [one[0] for one in told]
            self.assertEqual(firsts, sorted(firsts))

    def test_each_tie_is_in_just_one(self):
        for web in middlewebs():
            self.assertEqual(sorted(tie for one in classes(web) for tie in one), ties_of(web))

    def test_just_those_that_belong_together(self):
        for web in middlewebs():
            told = reckoned_fars(web)
            number = {tie: k for k, one in enumerate(classes(web)) for tie in one}
            for a, b in number:
                for c, d in number:
                    together = told[a][c] + told[b][d] != told[a][d] + told[b][c]
                    self.assertEqual(number[a, b] == number[c, d], together)

    def test_how_many(self):
        for many in range(1, 25):
            self.assertEqual(len(classes(line_web(many))), many - 1)
            self.assertEqual(len(classes(tree_web([k // 2 for k in range(many - 1)]))), many - 1)
        for size in range(5):
            self.assertEqual([len(one) for one in classes(cube_web(size))], [2 ** size // 2] * size)
        self.assertEqual(len(classes(grid_web(4, 6))), 8)

    def test_other_numbers(self):
        for web in middlewebs():
            numbers = other_numbers(len(web))
            due = sorted(sorted(renamed_tie(numbers, tie) for tie in one) for one in classes(web))
            self.assertEqual(classes(renumbered(web, numbers)), due)


class Halves(unittest.TestCase):
    def test_written_out(self):
        self.assertEqual(halves(line_web(1)), [])
        self.assertEqual(halves(line_web(3)), [([0], [1, 2]), ([0, 1], [2])])
        self.assertEqual(halves(cube_web(2)), [([0, 2], [1, 3]), ([0, 1], [2, 3])])
        self.assertEqual(halves(TAILED), [([0, 3], [1, 2, 4]), ([0, 2], [1, 3, 4]), ([0, 1, 2, 3], [4])])

    def test_the_place_0_is_not_always_by_the_lesser_end(self):
        # The line 0 4 3 1 2: the tie (1, 2) leads away from 0, and (1, 3) towards it.
        web = web_of(5, [(0, 4), (4, 3), (3, 1), (1, 2)])
        self.assertEqual(classes(web), [[(0, 4)], [(1, 2)], [(1, 3)], [(3, 4)]])
        due = [([0], [1, 2, 3, 4]), ([0, 1, 3, 4], [2]), ([0, 3, 4], [1, 2]), ([0, 4], [1, 2, 3])]
        self.assertEqual(halves(web), due)

    def test_kinds_and_order(self):
        for web in middlewebs():
            told = halves(web)
            self.assertIs(type(told), list)
            for both in told:
                self.assertEqual([type(both), type(both[0]), type(both[1]), len(both)], [tuple, list, list, 2])
                self.assertIn(0, both[0])
                for half in both:
                    self.assertEqual(half, sorted(set(half)))
                self.assertEqual(sorted(both[0] + both[1]), list(range(len(web))))

    def test_the_two_pieces_without_the_class(self):
        for web in middlewebs():
            told = halves(web)
            ties_by_class = classes(web)
            self.assertEqual(len(told), len(ties_by_class))
            for taken, (first, second) in zip(ties_by_class, told):
                left = [tie for tie in ties_of(web) if tie not in taken]
                self.assertEqual(first, piece_of(len(web), left, 0))
                self.assertEqual(second, piece_of(len(web), left, second[0]))
                for a, b in taken:
                    self.assertNotEqual(a in first, b in first)

    def test_other_numbers(self):
        for web in middlewebs():
            numbers = other_numbers(len(web))
            due = [sorted(sorted(numbers[x] for x in half) for half in both) for both in halves(web)]
            told = [sorted(both) for both in halves(renumbered(web, numbers))]
            self.assertEqual(sorted(told), sorted(due))


class BitRows(unittest.TestCase):
    def test_written_out(self):
        self.assertEqual(bit_rows(line_web(1)), [()])
        self.assertEqual(bit_rows(line_web(3)), [(0, 0), (1, 0), (1, 1)])
        self.assertEqual(bit_rows(cube_web(2)), [(0, 0), (1, 0), (0, 1), (1, 1)])
        self.assertEqual(bit_rows(TAILED), [(0, 0, 0), (1, 1, 0), (1, 0, 0), (0, 1, 0), (1, 1, 1)])

    def test_0_in_the_first_half(self):
        for web in middlewebs():
            told, parted = bit_rows(web), halves(web)
            self.assertIs(type(told), list)
            self.assertEqual(len(told), len(web))
            for x, row in enumerate(told):
                self.assertIs(type(row), tuple)
                self.assertEqual([type(bit) for bit in row], [int] * len(parted))
                self.assertEqual(row, tuple(0 if x in first else 1 for first, second in parted))

    def test_as_far_as_bits_are_unlike(self):
        for web in middlewebs():
            rows, told = bit_rows(web), reckoned_fars(web)
            for a, one in enumerate(rows):
                self.assertEqual([unlike_bits(one, other) for other in rows], told[a])


class PlaceOf(unittest.TestCase):
    def test_each_row(self):
        for web in middlewebs():
            told = [place_of(web, row) for row in bit_rows(web)]
            self.assertEqual(told, list(range(len(web))))
            self.assertEqual([type(x) for x in told], [int] * len(web))

    def test_written_out(self):
        self.assertEqual(place_of(line_web(1), ()), 0)
        self.assertIsNone(place_of(line_web(3), (0, 1)))
        self.assertEqual(place_of(cube_web(2), (1, 1)), 3)
        self.assertIsNone(place_of(TAILED, (0, 1, 1)))

    def test_all_bits(self):
        for web in small_middlewebs():
            rows = bit_rows(web)
            for bits in itertools.product((0, 1), repeat=len(rows[0])):
                self.assertEqual(place_of(web, bits), rows.index(bits) if bits in rows else None)

    def test_bits_in_a_list(self):
        bits = [1, 0]
        self.assertEqual(place_of(line_web(3), bits), 1)
        self.assertEqual(bits, [1, 0])
        bits[1] = 1
        self.assertEqual(place_of(line_web(3), (1, 0)), 1)
        self.assertEqual(place_of(line_web(3), bits), 2)


class Middle(unittest.TestCase):
    def test_written_out(self):
        self.assertEqual(middle(line_web(9), 7, 2, 5), 5)
        self.assertEqual(middle(grid_web(3, 3), 0, 2, 7), 1)
        self.assertEqual(middle(cube_web(3), 3, 5, 6), 7)
        self.assertEqual(middle(tree_web([0, 0, 0]), 3, 1, 2), 0)
        self.assertEqual(middle(line_web(1), 0, 0, 0), 0)

    def test_some_alike(self):
        for web in small_middlewebs():
            for a in range(len(web)):
                for b in range(len(web)):
                    told = middle(web, a, a, b), middle(web, a, b, a), middle(web, b, a, a)
                    self.assertEqual(told, (a, a, a))

    def test_the_one_that_middles_tells(self):
        for web in middlewebs():
            step = 1 if len(web) < 7 else 5
            for three in itertools.product(range(0, len(web), step), repeat=3):
                told = middle(web, *three)
                self.assertEqual([told], middles(web, *three))
                self.assertIs(type(told), int)

    def test_the_bit_that_two_have(self):
        for web in small_middlewebs():
            rows = bit_rows(web)
            for a, b, c in itertools.combinations(range(len(web)), 3):
                due = tuple(int(sum(bits) >= 2) for bits in zip(rows[a], rows[b], rows[c]))
                self.assertEqual(rows[middle(web, a, b, c)], due)


class Told(unittest.TestCase):
    """What is told is the asker's own."""

    def test_classes_may_be_changed_and_the_lists_within(self):
        due = [[(0, 1), (2, 3)], [(0, 2), (1, 3)]]
        told = classes(cube_web(2))
        told[0][0] = None
        told[1].clear()
        self.assertEqual(told, [[None, (2, 3)], []])
        told.append("more")
        self.assertEqual(classes(cube_web(2)), due)
        self.assertEqual(halves(cube_web(2)), [([0, 2], [1, 3]), ([0, 1], [2, 3])])

    def test_halves_may_be_changed_and_the_lists_within(self):
        due = [([0, 2], [1, 3]), ([0, 1], [2, 3])]
        told = halves(cube_web(2))
        told[0][0].append(9)
        told[0][1].clear()
        self.assertEqual(told[1], due[1])
        told.pop()
        self.assertEqual(halves(cube_web(2)), due)
        self.assertEqual(bit_rows(cube_web(2)), [(0, 0), (1, 0), (0, 1), (1, 1)])

    def test_bit_rows_may_be_changed(self):
        told = bit_rows(line_web(3))
        told[1] = (5, 5)
        told.pop()
        self.assertEqual(bit_rows(line_web(3)), [(0, 0), (1, 0), (1, 1)])
        self.assertEqual(place_of(line_web(3), (1, 0)), 1)
        self.assertIsNone(place_of(line_web(3), (5, 5)))

    def test_another_web_asked_between(self):
        web, other = grid_web(3, 2), grid_web(2, 3)
        for ask in (classes, halves, bit_rows, fars):
            first, second = ask(web), ask(web)
            ask(other)
            self.assertEqual(first, second)
            self.assertEqual(ask(web), first)


if __name__ == "__main__":
    unittest.main()
