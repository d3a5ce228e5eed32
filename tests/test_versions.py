import itertools
import random
import unittest

from middleweb.classes import middle
from middleweb.versions import agreed, merged, versions_far
from middleweb.webs import cube_web, grid_web, line_web, tree_web
from tests.helper import lies_between, middlewebs, other_numbers, reckoned_fars, renumbered

STAR = tree_web([0, 0, 0])


def some_version(chance, web, spots):
    return [chance.randrange(len(web)) for k in range(spots)]


def near_version(chance, web, version, steps):
    """Each place moved on by up to so many ties."""
    told = []
    for place in version:
        for turn in range(chance.randint(0, steps)):
            place = chance.choice(web[place]) if web[place] else place
        told.append(place)
    return told


def some_hands(chance, web, old, many):
    """Some of the hands leave a spot as it was, go a few ties away, or anywhere."""
    steps = chance.choice((1, 2, 30))
    hands = [near_version(chance, web, old, steps) for k in range(many)]
    return [[place if chance.random() < 0.3 else mine for place, mine in zip(old, hand)] for hand in hands]


def some_cases():
    """Of each web versions to be merged: the old one and one to six hands'."""
    chance = random.Random(27)
    cases = []
    for web in middlewebs():
        for many in (1, 2, 2, 3, 3, 4, 5, 6):
            old = some_version(chance, web, chance.randint(1, 4))
            cases.append((web, old, some_hands(chance, web, old, many)))
    return cases


def takers(told, old, places):
    """The places that take all of these in."""
    return [z for z in range(len(told)) if all(lies_between(told, old, place, z) for place in places)]


def reckoned_merge(told, old, hands):
    version = []
    for k, place in enumerate(old):
        found = takers(told, place, [hand[k] for hand in hands])
        if not found:
            pairs = itertools.combinations(range(len(hands)), 2)
            apart = [(i, j) for i, j in pairs if not takers(told, place, [hands[i][k], hands[j][k]])]
            return ("clash", k) + min(apart)
        version.append(min(found, key=lambda z: told[place][z]))
    return ("merged", version)


def moved(numbers, version):
    return [numbers[place] for place in version]


class VersionsFar(unittest.TestCase):
    def test_written_out(self):
        self.assertEqual(versions_far(line_web(4), [0, 1, 3], [3, 1, 0]), 6)
        self.assertEqual(versions_far(grid_web(3, 3), [0, 4], [8, 3]), 5)
        self.assertEqual(versions_far(cube_web(4), [0, 5, 5], [15, 6, 5]), 6)
        self.assertEqual(versions_far(STAR, [1, 0], [2, 3]), 3)

    def test_no_spots(self):
        for web in middlewebs():
            self.assertEqual(versions_far(web, [], []), 0)

    def test_sixty_spots(self):
        self.assertEqual(versions_far(line_web(24), [0] * 60, [23] * 60), 60 * 23)
        self.assertEqual(versions_far(line_web(24), [5] * 59 + [0], [5] * 59 + [7]), 7)
        self.assertEqual(versions_far(grid_web(4, 6), [3] * 60, [20] * 60), 60 * 8)

    def test_the_web_of_one_place(self):
        for spots in (0, 1, 60):
            self.assertEqual(versions_far(line_web(1), [0] * spots, [0] * spots), 0)

    def test_as_reckoned_and_both_ways_round(self):
        chance = random.Random(26)
        for web in middlewebs():
            told = reckoned_fars(web)
            for spots in (1, 2, 7, 60):
                one, other = some_version(chance, web, spots), some_version(chance, web, spots)
                due = sum(told[a][b] for a, b in zip(one, other, strict=True))
                self.assertEqual(versions_far(web, one, other), due)
                self.assertEqual(versions_far(web, other, one), due)
                self.assertIs(type(versions_far(web, one, other)), int)

    def test_a_version_and_itself(self):
        chance = random.Random(261)
        for web in middlewebs():
            version = some_version(chance, web, 20)
            self.assertEqual(versions_far(web, version, version), 0)
            self.assertEqual(versions_far(web, version, list(version)), 0)

    def test_other_numbers(self):
        chance = random.Random(262)
        for web in middlewebs():
            numbers = other_numbers(len(web))
            one, other = some_version(chance, web, 9), some_version(chance, web, 9)
            again = versions_far(renumbered(web, numbers), moved(numbers, one), moved(numbers, other))
            self.assertEqual(again, versions_far(web, one, other))


class Merged(unittest.TestCase):
    def test_written_out(self):
        self.assertEqual(merged(line_web(5), [0], [[2], [4], [1]]), ("merged", [4]))
        self.assertEqual(merged(line_web(5), [4], [[2], [3]]), ("merged", [2]))
        self.assertEqual(merged(cube_web(2), [0], [[1], [2]]), ("merged", [3]))
        self.assertEqual(merged(cube_web(2), [3], [[1], [2]]), ("merged", [0]))
        self.assertEqual(merged(cube_web(3), [0], [[1], [2], [4]]), ("merged", [7]))
        self.assertEqual(merged(grid_web(3, 3), [0], [[2], [6]]), ("merged", [8]))
        self.assertEqual(merged(grid_web(3, 3), [4, 4], [[1, 4], [3, 8]]), ("merged", [0, 8]))
        self.assertEqual(merged(line_web(3), [1], [[0], [2]]), ("clash", 0, 0, 1))
        self.assertEqual(merged(STAR, [1], [[2], [3]]), ("clash", 0, 0, 1))
        self.assertEqual(merged(STAR, [1], [[0], [3]]), ("merged", [3]))

    def test_the_least_far_is_told_not_any(self):
        self.assertEqual(merged(line_web(24), [10], [[11], [12]]), ("merged", [12]))
        self.assertEqual(merged(line_web(24), [10], [[9], [8]]), ("merged", [8]))
        self.assertEqual(merged(cube_web(4), [15], [[14], [13]]), ("merged", [12]))

    def test_no_spots(self):
        for web in middlewebs():
            for many in range(1, 7):
                self.assertEqual(merged(web, [], [[] for hand in range(many)]), ("merged", []))

    def test_one_hand_is_taken_as_it_is(self):
        chance = random.Random(271)
        for web in middlewebs():
            for spots in (1, 5, 60):
                old, hand = some_version(chance, web, spots), some_version(chance, web, spots)
                self.assertEqual(merged(web, old, [hand]), ("merged", hand))

    def test_six_hands(self):
        web = cube_web(4)
        hands = [[1, 15], [2, 15], [4, 14], [8, 15], [0, 13], [3, 7]]
        self.assertEqual(merged(web, [0, 15], hands), ("merged", [15, 4]))
        hands[5][1] = 0
        self.assertEqual(merged(web, [0, 15], hands), ("merged", [15, 0]))
        self.assertEqual(merged(line_web(9), [4], [[4], [4], [5], [4], [6], [3]]), ("clash", 0, 2, 5))

    def test_hands_that_leave_a_spot_as_it_was(self):
        chance = random.Random(272)
        for web in middlewebs():
            old, hand = some_version(chance, web, 4), some_version(chance, web, 4)
            for many in (1, 3, 6):
                self.assertEqual(merged(web, old, [list(old) for k in range(many)]), ("merged", old))
            for k in range(3):
                hands = [list(old), list(old)]
                hands.insert(k, hand)
                self.assertEqual(merged(web, old, hands), ("merged", hand))

    def test_hands_that_are_alike(self):
        chance = random.Random(273)
        for web in middlewebs():
            old, hand = some_version(chance, web, 4), some_version(chance, web, 4)
            self.assertEqual(merged(web, old, [hand, list(hand), list(hand)]), ("merged", hand))

    def test_sixty_spots(self):
        hands = [[0] * 59 + [3], [1] * 59 + [0]]
        self.assertEqual(merged(line_web(4), [0] * 60, hands), ("merged", [1] * 59 + [3]))
        self.assertEqual(merged(line_web(4), [0] * 59 + [1], hands), ("clash", 59, 0, 1))

    def test_the_web_of_one_place(self):
        self.assertEqual(merged(line_web(1), [0] * 60, [[0] * 60] * 6), ("merged", [0] * 60))

    def test_the_first_two_hands_that_clash(self):
        grid = grid_web(3, 3)
        # Left, up, down, right of the centre: both (0, 3) and (1, 2) clash.
        self.assertEqual(merged(grid, [4], [[3], [1], [7], [5]]), ("clash", 0, 0, 3))
        self.assertEqual(merged(grid, [4], [[1], [7], [3], [5]]), ("clash", 0, 0, 1))
        self.assertEqual(merged(grid, [4], [[3], [4], [5], [5]]), ("clash", 0, 0, 2))
        self.assertEqual(merged(grid, [4], [[4], [4], [1], [3], [5]]), ("clash", 0, 3, 4))
        self.assertEqual(merged(STAR, [0], [[1], [1], [2], [3]]), ("clash", 0, 0, 2))
        self.assertEqual(merged(STAR, [0], [[0], [1], [2], [3]]), ("clash", 0, 1, 2))

    def test_a_clash_at_a_later_spot(self):
        web = line_web(5)
        self.assertEqual(merged(web, [0, 4, 2], [[1, 2, 1], [3, 3, 3]]), ("clash", 2, 0, 1))
        self.assertEqual(merged(web, [0, 2, 2], [[1, 2, 1], [3, 3, 3], [0, 1, 0]]), ("clash", 1, 1, 2))
        self.assertEqual(merged(web, [2, 2, 2], [[2, 2, 1], [3, 1, 3], [3, 3, 2]]), ("clash", 1, 1, 2))

    def test_as_reckoned(self):
        words = []
        for web, old, hands in some_cases():
            due = reckoned_merge(reckoned_fars(web), old, hands)
            self.assertEqual(merged(web, old, hands), due)
            words.append((due[0], len(hands)))
        for many in range(1, 7):
            self.assertGreater(words.count(("merged", many)), 10)
        for many in range(2, 7):
            self.assertGreater(words.count(("clash", many)), 10)

    def test_merged_to_the_one_place_that_is_the_least_far(self):
        several = 0
        for web, old, hands in some_cases():
            told, answer = reckoned_fars(web), merged(web, old, hands)
            if answer[0] == "merged":
                self.assertEqual(len(answer[1]), len(old))
                for k, z in enumerate(answer[1]):
                    found = takers(told, old[k], [hand[k] for hand in hands])
                    several += len(found) > 1
                    self.assertIn(z, found)
                    self.assertTrue(all(told[old[k]][z] < told[old[k]][y] for y in found if y != z))
        self.assertGreater(several, 100)

    def test_a_clash_is_of_two_hands_alone(self):
        later = 0
        for web, old, hands in some_cases():
            answer = merged(web, old, hands)
            if answer[0] == "clash":
                word, k, i, j = answer
                later += k > 0
                self.assertLess(i, j)
                self.assertEqual(merged(web, old[:k], [hand[:k] for hand in hands])[0], "merged")
                self.assertEqual(merged(web, [old[k]], [[hands[i][k]], [hands[j][k]]]), ("clash", 0, 0, 1))
                # Those ahead of i can be merged with each one, and so can i with those ahead of j.
                for first, second in itertools.combinations(range(len(hands)), 2):
                    if (first, second) < (i, j):
                        both = [[hands[first][k]], [hands[second][k]]]
                        self.assertEqual(merged(web, [old[k]], both)[0], "merged")
        self.assertGreater(later, 20)

    def test_hands_in_another_order(self):
        for web, old, hands in some_cases():
            told, answer = reckoned_fars(web), merged(web, old, hands)
            for turned in (hands[::-1], hands[1:] + hands[:1]):
                again = merged(web, old, turned)
                self.assertEqual(again, reckoned_merge(told, old, turned))
                self.assertEqual(again[:2], answer[:2])

    def test_kinds(self):
        told = merged(line_web(3), [0, 1], [[1, 1], [0, 2]])
        self.assertEqual((type(told), type(told[1]), [type(x) for x in told[1]]), (tuple, list, [int, int]))
        told = merged(line_web(3), [1], [[0], [2]])
        self.assertEqual((type(told), [type(thing) for thing in told]), (tuple, [str, int, int, int]))

    def test_other_numbers(self):
        for web, old, hands in some_cases():
            numbers = other_numbers(len(web))
            answer = merged(web, old, hands)
            again = merged(renumbered(web, numbers), moved(numbers, old), [moved(numbers, hand) for hand in hands])
            due = ("merged", moved(numbers, answer[1])) if answer[0] == "merged" else answer
            self.assertEqual(again, due)


def some_votes():
    """Of each web an odd number of versions, one to nine."""
    chance = random.Random(28)
    return [
        (web, [some_version(chance, web, spots) for k in range(many)])
        for web in middlewebs() for many, spots in ((1, 4), (3, 5), (5, 3), (7, 2), (9, 3))
    ]


class Agreed(unittest.TestCase):
    def test_written_out(self):
        self.assertEqual(agreed(line_web(5), [[0, 4], [1, 4], [4, 0]]), [1, 4])
        self.assertEqual(agreed(grid_web(3, 3), [[0], [2], [7]]), [1])
        self.assertEqual(agreed(STAR, [[1], [2], [3]]), [0])
        self.assertEqual(agreed(STAR, [[1], [2], [3], [1], [1]]), [1])
        self.assertEqual(agreed(cube_web(3), [[1], [2], [4]]), [0])
        self.assertEqual(agreed(cube_web(3), [[1], [3], [7], [7], [0]]), [3])
        self.assertEqual(agreed(line_web(24), [[k] for k in (23, 0, 3, 9, 9, 11, 23, 1, 22)]), [9])

    def test_no_spots(self):
        for web in middlewebs():
            for many in (1, 3, 5, 7, 9):
                self.assertEqual(agreed(web, [[] for k in range(many)]), [])

    def test_one_version_is_itself(self):
        chance = random.Random(281)
        for web in middlewebs():
            for spots in (1, 6, 60):
                version = some_version(chance, web, spots)
                self.assertEqual(agreed(web, [version]), version)

    def test_sixty_spots_and_one_place(self):
        self.assertEqual(agreed(line_web(3), [[0] * 60, [1] * 60, [2] * 60]), [1] * 60)
        self.assertEqual(agreed(line_web(1), [[0] * 60] * 9), [0] * 60)

    def test_of_three_the_middle_at_each_spot(self):
        for web, versions in some_votes():
            if len(versions) == 3:
                due = [middle(web, *three) for three in zip(*versions)]
                self.assertEqual(agreed(web, versions), due)

    def test_the_one_place_with_the_least_going(self):
        for web, versions in some_votes():
            told, answer = reckoned_fars(web), agreed(web, versions)
            self.assertEqual(len(answer), len(versions[0]))
            for x, places in zip(answer, zip(*versions)):
                goings = [sum(told[place][y] for place in places) for y in range(len(web))]
                self.assertEqual([y for y, going in enumerate(goings) if going == min(goings)], [x])

    def test_most_of_them_alike(self):
        chance = random.Random(282)
        for web in middlewebs():
            mine = some_version(chance, web, 3)
            for many in (3, 5, 7, 9):
                others = [some_version(chance, web, 3) for k in range(many // 2)]
                self.assertEqual(agreed(web, others + [mine] * (many - many // 2)), mine)

    def test_no_version_is_less_far_from_all_together(self):
        chance = random.Random(283)
        for web, versions in some_votes():
            answer = agreed(web, versions)
            least = sum(versions_far(web, answer, version) for version in versions)
            others = [some_version(chance, web, len(answer)) for k in range(2)] + versions
            others += [near_version(chance, web, answer, 1) for k in range(2)]
            for other in others:
                if other != answer:
                    self.assertLess(least, sum(versions_far(web, other, version) for version in versions))

    def test_in_another_order(self):
        for web, versions in some_votes():
            self.assertEqual(agreed(web, versions[::-1]), agreed(web, versions))
            self.assertEqual(agreed(web, versions[1:] + versions[:1]), agreed(web, versions))

    def test_kinds(self):
        told = agreed(line_web(3), [[0, 2], [1, 2], [2, 2]])
        self.assertEqual((type(told), [type(x) for x in told]), (list, [int, int]))

    def test_other_numbers(self):
        for web, versions in some_votes():
            numbers = other_numbers(len(web))
            again = agreed(renumbered(web, numbers), [moved(numbers, version) for version in versions])
            self.assertEqual(again, moved(numbers, agreed(web, versions)))


class HandedInAndTold(unittest.TestCase):
    def test_nothing_handed_in_is_changed(self):
        for web, old, hands in some_cases()[::5]:
            kept, kept_hands = list(old), [list(hand) for hand in hands]
            merged(web, old, hands)
            versions_far(web, old, hands[0])
            self.assertEqual((old, hands), (kept, kept_hands))
        for web, versions in some_votes()[::5]:
            kept = [list(version) for version in versions]
            agreed(web, versions)
            self.assertEqual(versions, kept)

    def test_what_was_handed_in_may_be_changed_behind(self):
        web, old, hands = line_web(5), [0, 2], [[1, 2], [0, 3]]
        told = merged(web, old, hands)
        alone = merged(web, old, hands[:1])
        voted = agreed(web, [hands[0]])
        old[0] = 4
        hands[0][0] = 4
        hands[0].append(3)
        hands.append([0, 0])
        self.assertEqual(told, ("merged", [1, 3]))
        self.assertEqual(alone, ("merged", [1, 2]))
        self.assertEqual(voted, [1, 2])
        self.assertEqual(merged(web, [0, 2], [[1, 2], [0, 3]]), ("merged", [1, 3]))
        self.assertEqual(versions_far(web, [0, 2], [1, 2]), 1)

    def test_what_is_told_may_be_changed(self):
        web, old, hands = line_web(5), [0, 2], [[1, 2], [1, 2], [1, 2]]
        for turn in range(2):
            told, voted = merged(web, old, hands), agreed(web, hands)
            self.assertEqual((told, voted), (("merged", [1, 2]), [1, 2]))
            told[1].append(9)
            told[1][0] = "changed"
            voted.clear()
            self.assertEqual((old, hands), ([0, 2], [[1, 2]] * 3))
        alone, single = merged(web, old, [old]), agreed(web, [old])
        alone[1].clear()
        single.append(9)
        self.assertEqual(old, [0, 2])

    def test_another_web_asked_between(self):
        told = merged(line_web(3), [1], [[2], [1]])
        voted = agreed(line_web(3), [[0], [1], [2]])
        merged(STAR, [1], [[2], [1]])
        agreed(STAR, [[3], [3], [2]])
        self.assertEqual((told, voted), (("merged", [2]), [1]))
        self.assertEqual(versions_far(STAR, [1], [2]), 2)
        self.assertEqual(versions_far(line_web(3), [1], [2]), 1)


if __name__ == "__main__":
    unittest.main()
