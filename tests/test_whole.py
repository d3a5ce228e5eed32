"""The promise over the whole program, sentence by sentence, over webs of many sorts in several orders of numbers."""

import functools
import itertools
import random
import unittest

from middleweb.classes import bit_rows, classes, halves, middle, place_of
from middleweb.cubes import cube_counts
from middleweb.desk import Desk
from middleweb.doublings import doubled, folded, grown, unfolded
from middleweb.going import gathered, going_to, lighter
from middleweb.joins import filled, glued, kept_part, side_by_side, unfilled
from middleweb.parts import gate, hull, outside, shared
from middleweb.texts import read_web, show_web
from middleweb.verdict import looked
from middleweb.versions import agreed, merged, versions_far
from middleweb.ways import between, far, fars, middles, way_between
from middleweb.webs import cube_web, grid_web, line_web, ties_of, tree_web
from tests.helper import (
    due_word,
    is_closed,
    lies_between,
    mixed_webs,
    near_webs,
    reckoned_fars,
    reckoned_middles,
    renamed,
    renumbered,
    ring_web,
    some_parts,
    some_places,
    unlike_bits,
)

# Parts that are in one piece with all their middles, none of them closed.
KEPT = (
    (grid_web(4, 4), [0, 1, 2, 3, 4, 8, 12]),
    (grid_web(4, 4), [0, 1, 2, 4, 5, 6, 7, 9, 10, 14]),
    (cube_web(4), [0, 1, 2, 3, 7, 15]),
)


@functools.lru_cache(maxsize=None)
def sorts():
    """Trees, grids, cubes, and what is made of these."""
    trees = [line_web(1), line_web(2), line_web(9), tree_web([0, 0, 0]), tree_web([0, 0, 1, 1, 2, 4, 4, 0, 8])]
    grids = [grid_web(3, 3), grid_web(2, 5), grid_web(4, 6)]
    cubes = [cube_web(2), cube_web(3), cube_web(4)]
    twins = [doubled(grid_web(3, 3), [1, 2, 4, 5]), doubled(doubled(cube_web(3), [0, 1, 4, 5]), [1, 5, 9, 11])]
    beside = [side_by_side(tree_web([0, 0, 0]), line_web(3)), side_by_side(grid_web(2, 3), line_web(4))]
    joined = [glued(grid_web(3, 3), [5, 8], cube_web(3), [2, 6]), glued(cube_web(2), [3], line_web(5), [2])]
    joined += [glued(grid_web(3, 3), [4, 5, 7, 8], cube_web(3), [1, 5, 3, 7])]
    kept = [kept_part(web, part) for web, part in KEPT]
    fewer = [folded(grid_web(4, 5), 2)[0], folded(joined[0], 1)[0]]
    return tuple(trees + grids + cubes + twins + beside + joined + kept + fewer)


def orders(many):
    """Several orders of the numbers: as they are, turned about, and three others."""
    found = [list(range(many)), list(range(many))[::-1]]
    for seed in range(3):
        numbers = list(range(many))
        random.Random(seed).shuffle(numbers)
        found.append(numbers)
    return found


@functools.lru_cache(maxsize=None)
def cases():
    """A web, other numbers for its places, and the web by these."""
    return tuple((web, numbers, renumbered(web, numbers)) for web in sorts() for numbers in orders(len(web)))


@functools.lru_cache(maxsize=None)
def webs():
    return tuple(again for web, numbers, again in cases())


def some_people(chance, many):
    most = chance.choice((1, 3, 10 ** 9))
    return [chance.randint(0, most) for place in range(many)]


def moved(numbers, places):
    return [numbers[x] for x in places]


def moved_people(numbers, people):
    return [people[numbers.index(x)] for x in range(len(people))]


def moved_tie(numbers, tie):
    return tuple(sorted(moved(numbers, tie)))


def parted(both, numbers):
    """Two halves, whichever is told first."""
    return frozenset(frozenset(moved(numbers, half)) for half in both)


def some_hands(chance, web, old):
    """Some of the hands leave places as they were, or go to a place tied to them, or anywhere."""
    told = []
    for hand in range(chance.randint(1, 6)):
        choices = [chance.choice([[place], list(web[place]) or [place], list(range(len(web)))]) for place in old]
        told.append([chance.choice(choice) for choice in choices])
    return told


class EachWebIsTold(unittest.TestCase):
    def test_the_sorts_are_middlewebs(self):
        for web in sorts():
            self.assertEqual(due_word(reckoned_fars(web)), "one")
        for web, part in KEPT:
            self.assertIsNone(unfilled(web, part))
            self.assertIsNotNone(outside(web, part))

    def test_a_row_of_bits_for_each_place(self):
        for web in webs():
            word, rows = looked(web)
            self.assertEqual((word, len(rows)), ("one", len(web)))
            told = reckoned_fars(web)
            for a, b in itertools.combinations(range(len(web)), 2):
                self.assertEqual(unlike_bits(rows[a], rows[b]), told[a][b])

    def test_the_middle_has_each_bit_that_two_have(self):
        chance = random.Random(30)
        for web in webs():
            rows, told = looked(web)[1], reckoned_fars(web)
            for turn in range(12):
                three = [chance.randrange(len(web)) for k in range(3)]
                due = tuple(int(sum(bits) > 1) for bits in zip(*[rows[x] for x in three]))
                x = middle(web, *three)
                self.assertEqual((rows[x], place_of(web, due)), (due, x))
                self.assertEqual([x], reckoned_middles(told, *three))

    def test_or_what_shows_that_it_is_none(self):
        chance = random.Random(31)
        others = [ring_web(many) for many in (3, 5, 6, 8)] + mixed_webs()
        for web in webs()[::3]:
            near = near_webs(web)
            others += [near[chance.randrange(len(near))] for k in range(2)] if near else []
        words = []
        for web in others:
            answer, told = looked(web), reckoned_fars(web)
            words.append(answer[0])
            self.assertEqual(answer[0], due_word(told))
            if answer[0] == "apart":
                self.assertIsNone(told[answer[1]][answer[2]])
            if answer[0] == "bad":
                self.assertEqual(answer[2], reckoned_middles(told, *answer[1]))
                self.assertNotEqual(len(answer[2]), 1)
        for word in ("apart", "bad"):
            self.assertGreater(words.count(word), 15)


class OfAMiddleweb(unittest.TestCase):
    def assert_middleweb(self, web):
        self.assertEqual(due_word(reckoned_fars(web)), "one")
        self.assertEqual(looked(web)[0], "one")

    def test_ties_fall_in_classes_that_cut_it_in_two_closed_halves(self):
        for web in webs():
            told, found = reckoned_fars(web), classes(web)
            self.assertEqual(sorted(tie for ties in found for tie in ties), ties_of(web))
            for ties, (first, second) in zip(found, halves(web), strict=True):
                self.assertEqual(sorted(first + second), list(range(len(web))))
                self.assertEqual([(a in first) != (b in first) for a, b in ties_of(web)],
                                 [tie in ties for tie in ties_of(web)])
                self.assertTrue(is_closed(told, first) and is_closed(told, second))
                self.assertEqual((outside(web, first), outside(web, second)), (None, None))

    def test_closed_parts_of_which_each_two_meet_have_a_place_in_common(self):
        chance = random.Random(32)
        words = []
        for web in webs():
            for turn in range(6):
                parts = [hull(web, some_places(chance, len(web), 4)) for k in range(chance.randint(1, 12))]
                pairs = itertools.combinations(range(len(parts)), 2)
                apart = [(i, j) for i, j in pairs if not set(parts[i]) & set(parts[j])]
                common = functools.reduce(set.intersection, [set(part) for part in parts])
                self.assertEqual(bool(apart), not common)
                due = ("apart",) + apart[0] if apart else ("place", min(common))
                self.assertEqual(shared(web, parts), due)
                words.append((due[0], len(parts) > 2))
        for word in ("place", "apart"):
            self.assertGreater(words.count((word, True)), 30)

    def test_a_closed_part_has_a_gate_for_each_place(self):
        for web in webs():
            told = reckoned_fars(web)
            for part in some_parts(web)[::3]:
                for x in range(len(web)):
                    found = [y for y in part if all(lies_between(told, x, y, z) for z in part)]
                    self.assertEqual([gate(web, part, x)], found)

    def test_least_going_by_halves_and_by_all_places(self):
        chance = random.Random(33)
        for web in webs():
            people = some_people(chance, len(web))
            going, places, sides = gathered(web, people)
            goings = [going_to(web, people, x) for x in range(len(web))]
            self.assertEqual((going, places), (min(goings), [x for x in range(len(web)) if goings[x] == min(goings)]))
            self.assertEqual(going, sum(min(side) for side in sides))
            left = set(range(len(web)))
            for (first, second), (one, other) in zip(halves(web), sides, strict=True):
                self.assertEqual((one, other), (sum(moved(people, first)), sum(moved(people, second))))
                left &= left if one == other else set(first if one > other else second)
            self.assertEqual(places, sorted(left))

    def test_unfolds_from_one_place_by_closed_parts(self):
        for web in webs():
            parts, order = unfolded(web)
            grows = line_web(1)
            for part in parts:
                self.assertTrue(part and is_closed(reckoned_fars(grows), part))
                grows = doubled(grows, part)
            self.assertEqual(grown(parts), grows)
            self.assertEqual(renumbered(grows, order), web)
            self.assertEqual(len(parts), len(classes(web)))

    def test_doubled_it_is_one_again(self):
        chance = random.Random(34)
        for web in webs():
            part = chance.choice(some_parts(web))
            if len(web) + len(part) <= 24:
                self.assert_middleweb(doubled(web, part))

    def test_folded_it_is_one_again(self):
        for web in webs()[::2]:
            for number in range(len(classes(web)))[:2]:
                told = folded(web, number)[0]
                self.assert_middleweb(told)
                self.assertEqual(len(classes(told)), len(classes(web)) - 1)

    def test_side_by_side_they_are_one_again(self):
        for web in webs()[::2]:
            for other in (line_web(2), tree_web([0, 0, 0]), cube_web(2)):
                if len(web) * len(other) <= 24:
                    self.assert_middleweb(side_by_side(web, other))
                    self.assert_middleweb(side_by_side(other, web))

    def test_glued_along_closed_parts_they_are_one_again(self):
        chance = random.Random(35)
        for web in webs()[::2]:
            part = chance.choice(some_parts(web))
            wider = hull(web, part + [chance.randrange(len(web))])
            if len(web) + len(wider) - len(part) <= 24:
                mates = [wider.index(x) for x in part]
                self.assert_middleweb(glued(web, part, kept_part(web, wider), mates))
            if len(web) + 4 <= 24:
                self.assert_middleweb(glued(web, [len(web) - 1], tree_web([0, 0, 1]), [2]))

    def test_kept_in_one_piece_with_all_its_middles_it_is_one_again(self):
        chance = random.Random(36)
        seen = 0
        for web in webs():
            told = reckoned_fars(web)
            part = filled(web, some_places(chance, len(web), len(web)))
            self.assertIsNone(unfilled(web, part))
            kept = kept_part(web, part)
            if looked(kept)[0] != "apart":
                seen += len(part) < len(web)
                self.assert_middleweb(kept)
                self.assertEqual(fars(kept), [moved(told[x], part) for x in part])
        self.assertGreater(seen, 15)


class ManyHands(unittest.TestCase):
    def test_merged_place_by_place_or_two_clash(self):
        chance = random.Random(37)
        words = []
        for web in webs():
            told = reckoned_fars(web)
            for turn in range(3):
                old = some_places(chance, len(web), 4)
                hands = some_hands(chance, web, old)
                answer = merged(web, old, hands)
                spots = [merged(web, [place], [[hand[k]] for hand in hands]) for k, place in enumerate(old)]
                words.append(answer[0])
                if answer[0] == "merged":
                    self.assertEqual([("merged", [z]) for z in answer[1]], spots)
                    for k, z in enumerate(answer[1]):
                        self.assertTrue(all(lies_between(told, old[k], hand[k], z) for hand in hands))
                else:
                    word, k, i, j = answer
                    self.assertEqual([spot[0] for spot in spots[:k + 1]], ["merged"] * k + ["clash"])
                    ends = [x for x in range(len(web)) if lies_between(told, old[k], hands[i][k], x)]
                    self.assertFalse(any(lies_between(told, old[k], hands[j][k], x) for x in ends))
        for word in ("merged", "clash"):
            self.assertGreater(words.count(word), 50)


class OtherNumbers(unittest.TestCase):
    """What is told of a web is told of the same web by other numbers, by these numbers."""

    def test_ways_and_middles(self):
        chance = random.Random(38)
        for web, numbers, again in cases():
            for turn in range(6):
                a, b, c = [chance.randrange(len(web)) for k in range(3)]
                x, y, z = moved(numbers, [a, b, c])
                self.assertEqual(far(again, x, y), far(web, a, b))
                self.assertEqual(len(way_between(again, x, y)), len(way_between(web, a, b)))
                self.assertEqual(between(again, x, y), renamed(numbers, between(web, a, b)))
                self.assertEqual(middles(again, x, y, z), renamed(numbers, middles(web, a, b, c)))
                self.assertEqual(middle(again, x, y, z), numbers[middle(web, a, b, c)])

    def test_fars(self):
        for web, numbers, again in cases():
            told, lengths = fars(again), fars(web)
            for a, b in itertools.product(range(len(web)), repeat=2):
                self.assertEqual(told[numbers[a]][numbers[b]], lengths[a][b])

    def test_the_verdict(self):
        for web in [ring_web(6), ring_web(3)] + mixed_webs()[::2] + list(sorts()):
            for numbers in orders(len(web)):
                self.assertEqual(looked(renumbered(web, numbers))[0], looked(web)[0])

    def test_classes_and_halves(self):
        for web, numbers, again in cases():
            due = sorted(sorted(moved_tie(numbers, tie) for tie in ties) for ties in classes(web))
            self.assertEqual(classes(again), due)
            cuts = {parted(both, numbers) for both in halves(web)}
            self.assertEqual({parted(both, range(len(web))) for both in halves(again)}, cuts)

    def test_bits(self):
        for web, numbers, again in cases():
            rows, turned = bit_rows(web), bit_rows(again)
            # Which number a class has, and which half comes first, hangs on the numbers; who is parted from whom not.
            for a, b in itertools.combinations(range(len(web)), 2):
                self.assertEqual(unlike_bits(turned[numbers[a]], turned[numbers[b]]), unlike_bits(rows[a], rows[b]))
            self.assertEqual([place_of(again, row) for row in turned], list(range(len(web))))

    def test_parts(self):
        chance = random.Random(39)
        for web, numbers, again in cases():
            for turn in range(4):
                some = some_places(chance, len(web), 4)
                part = hull(web, some)
                self.assertEqual(hull(again, moved(numbers, some)), renamed(numbers, part))
                self.assertEqual(filled(again, moved(numbers, some)), renamed(numbers, filled(web, some)))
                x = chance.randrange(len(web))
                self.assertEqual(gate(again, renamed(numbers, part), numbers[x]), numbers[gate(web, part, x)])
                single = sorted(set(some))
                turned = renamed(numbers, single)
                self.assertEqual(outside(again, turned) is None, outside(web, single) is None)
                self.assertEqual(unfilled(again, turned) is None, unfilled(web, single) is None)

    def test_shared(self):
        chance = random.Random(40)
        for web, numbers, again in cases():
            parts = [hull(web, some_places(chance, len(web), 4)) for k in range(3)]
            answer = shared(web, parts)
            if answer[0] == "place":
                answer = ("place", min(numbers[x] for x in range(len(web)) if all(x in part for part in parts)))
            self.assertEqual(shared(again, [renamed(numbers, part) for part in parts]), answer)

    def test_going(self):
        chance = random.Random(41)
        for web, numbers, again in cases():
            people = some_people(chance, len(web))
            turned = moved_people(numbers, people)
            going, places, sides = gathered(web, people)
            told = gathered(again, turned)
            self.assertEqual(told[:2], (going, renamed(numbers, places)))
            due = sorted((sorted(renamed(numbers, half) for half in both), sorted(side))
                         for both, side in zip(halves(web), sides))
            self.assertEqual(sorted((sorted(both), sorted(side)) for both, side in zip(halves(again), told[2])), due)
            for x in range(len(web)):
                here = going_to(web, people, x)
                self.assertEqual(going_to(again, turned, numbers[x]), here)
                less = [numbers[y] for y in web[x] if going_to(web, people, y) < here]
                self.assertEqual(lighter(again, turned, numbers[x]), min(less, default=None))

    def test_doubled_and_kept(self):
        chance = random.Random(42)
        for web, numbers, again in cases():
            part = chance.choice(some_parts(web))
            turned = renamed(numbers, part)
            inner = [turned.index(numbers[x]) for x in part]
            self.assertEqual(kept_part(again, turned), renumbered(kept_part(web, part), inner))
            if len(web) + len(part) <= 24:
                twins = [len(web) + k for k in inner]
                self.assertEqual(doubled(again, turned), renumbered(doubled(web, part), numbers + twins))

    def test_unfolded(self):
        for web, numbers, again in cases():
            parts, order = unfolded(again)
            back = [numbers.index(x) for x in order]
            self.assertEqual(renumbered(grown(parts), back), web)
            self.assertEqual(len(parts), len(unfolded(web)[0]))

    def test_folded(self):
        for web, numbers, again in cases():
            turned = classes(again)
            for number, ties in list(enumerate(classes(web)))[:3]:
                told, becomes = folded(web, number)
                same = turned.index(sorted(moved_tie(numbers, tie) for tie in ties))
                other, into = folded(again, same)
                names = [into[numbers[becomes.index(x)]] for x in range(len(told))]
                self.assertEqual([into[numbers[x]] for x in range(len(web))], moved(names, becomes))
                self.assertEqual(other, renumbered(told, names))

    def test_put_together(self):
        other = glued(cube_web(2), [3], line_web(2), [0])
        for web, numbers, again in cases():
            for second in orders(len(other)):
                turned = renumbered(other, second)
                if len(web) * len(other) <= 24:
                    names = [a * len(other) + b for a in numbers for b in second]
                    self.assertEqual(side_by_side(again, turned), renumbered(side_by_side(web, other), names))
                if len(web) + len(other) - 1 <= 24:
                    told = glued(again, [numbers[0]], turned, [second[3]])
                    left = sorted(second[y] for y in (0, 1, 2, 4))
                    names = numbers + [len(web) + left.index(second[y]) for y in (0, 1, 2, 4)]
                    self.assertEqual(told, renumbered(glued(web, [0], other, [3]), names))

    def test_versions(self):
        chance = random.Random(43)
        for web, numbers, again in cases():
            old = some_places(chance, len(web), 6)
            hands = some_hands(chance, web, old)
            turned = [moved(numbers, hand) for hand in hands]
            answer = merged(web, old, hands)
            due = ("merged", moved(numbers, answer[1])) if answer[0] == "merged" else answer
            self.assertEqual(merged(again, moved(numbers, old), turned), due)
            self.assertEqual(versions_far(again, moved(numbers, old), turned[0]), versions_far(web, old, hands[0]))
            odd = len(hands) - 1 + len(hands) % 2
            self.assertEqual(agreed(again, turned[:odd]), moved(numbers, agreed(web, hands[:odd])))

    def test_cubes_and_texts(self):
        for web, numbers, again in cases():
            self.assertEqual(cube_counts(again), cube_counts(web))
            self.assertEqual(renumbered(read_web(show_web(web)), numbers), read_web(show_web(again)))

    def test_the_desk(self):
        chance = random.Random(44)
        for web, numbers, again in cases():
            desk = Desk()
            desk.say(f"web a {show_web(web)}")
            desk.say(f"web b {show_web(again)}")
            x, y, z = [chance.randrange(len(web)) for k in range(3)]
            i, j, k = moved(numbers, [x, y, z])
            self.assertEqual(desk.say(f"far b {i} {j}"), desk.say(f"far a {x} {y}"))
            self.assertEqual(desk.say("cubes b"), desk.say("cubes a"))
            for word in ("middle", "gate", "hull"):
                told = [int(place) for place in desk.say(f"{word} a {x} {y} {z}").split(" ")]
                self.assertEqual(desk.say(f"{word} b {i} {j} {k}"), " ".join(map(str, renamed(numbers, told))))
            told = [int(place) for place in desk.say(f"between a {x} {y}").split(" ")]
            self.assertEqual(desk.say(f"between b {i} {j}"), " ".join(map(str, renamed(numbers, told))))
            people = some_people(chance, len(web))
            going, places = desk.say("gather a " + " ".join(map(str, people))).split(":")
            due = " ".join([f"{going}:"] + [str(place) for place in renamed(numbers, map(int, places.split()))])
            self.assertEqual(desk.say("gather b " + " ".join(map(str, moved_people(numbers, people)))), due)


if __name__ == "__main__":
    unittest.main()
