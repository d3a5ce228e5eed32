"""What the tests share: webs to try, refusals to look at, and a second reckoning of what the program tells."""

import functools
import random

from middleweb import errors
from middleweb.webs import cube_web, grid_web, line_web, ties_of, tree_web, web_of

REFUSALS = (
    errors.NoWeb,
    errors.NotClosed,
    errors.TooMany,
    errors.NoFit,
    errors.NoText,
    errors.NotOne,
    errors.NoRow,
    errors.NoName,
    errors.NoPlace,
)

# Of other kinds than a whole number.
NO_NUMBERS = (None, True, False, "", "1", "a", [], [1], (), (1,), {}, {1: 1}, {1}, 1.0, 0.5, 1j, b"1", int, object())


def assert_refused(case, due, call, *handed):
    """The call is refused with just the class that is due; the refusal is given back."""
    with case.assertRaises(errors.WebError, msg=repr(handed)) as caught:
        call(*handed)
    refusal = caught.exception
    case.assertIsInstance(refusal, ValueError)
    case.assertEqual([kind for kind in REFUSALS if isinstance(refusal, kind)], [due], repr(handed))
    return refusal


def all_pairs(many):
    return [(a, b) for a in range(many) for b in range(a + 1, many)]


def all_webs(many):
    """Each web of so many places, by all choices of ties."""
    pairs = all_pairs(many)
    return [
        web_of(many, [pair for k, pair in enumerate(pairs) if choice >> k & 1])
        for choice in range(2 ** len(pairs))
    ]


def mixed_webs():
    """Webs of many sizes, sparse to dense, in one piece or not; the same ones each time."""
    chance = random.Random(20)
    webs = []
    for many in (5, 6, 8, 11, 16, 23, 24):
        for share in (0.05, 0.12, 0.25, 0.6, 1.0):
            webs.append(web_of(many, [pair for pair in all_pairs(many) if chance.random() < share]))
    return webs


def sample_webs():
    made = [line_web(1), line_web(7), line_web(24), grid_web(4, 6), grid_web(3, 3), cube_web(3), cube_web(4)]
    made.append(tree_web([0, 0, 1, 1, 2, 2, 3, 3]))
    made.append(web_of(6, [(0, 1), (1, 2), (2, 3), (3, 4), (4, 5), (5, 0)]))
    return all_webs(1) + all_webs(2) + all_webs(3) + all_webs(4) + made + mixed_webs()


def ring_web(many):
    return web_of(many, [(place, (place + 1) % many) for place in range(many)])


def with_tie(web, tie):
    return web_of(len(web), ties_of(web) + [tie])


def without_tie(web, tie):
    return web_of(len(web), [other for other in ties_of(web) if other != tie])


def without_place(web, gone):
    """The web of the other places; those behind the one that is gone are numbered one less."""
    left = [tie for tie in ties_of(web) if gone not in tie]
    return web_of(len(web) - 1, [(a - (a > gone), b - (b > gone)) for a, b in left])


def near_webs(web):
    """The webs with one tie more, with one tie fewer, and without one of the places."""
    ties = ties_of(web)
    more = [with_tie(web, pair) for pair in all_pairs(len(web)) if pair not in ties]
    fewer = [without_tie(web, tie) for tie in ties]
    return more + fewer + [without_place(web, x) for x in range(len(web)) if len(web) > 1]


def twinned(web, part):
    """The web with a twin for each place of the part, tied to it, and twins tied as their own places are."""
    many = len(web)
    twins = {x: many + k for k, x in enumerate(part)}
    ties = ties_of(web) + [(x, twins[x]) for x in part]
    ties += [(twins[a], twins[b]) for a, b in ties_of(web) if a in twins and b in twins]
    return web_of(many + len(part), ties)


def grown_web(seed, most):
    """A middleweb of at most so many places, by twins of closed parts picked by the seed; numbered anew."""
    chance = random.Random(seed)
    web = line_web(1)
    for turn in range(30):
        some = [chance.randrange(len(web)) for k in range(chance.randint(1, 3))]
        part = reckoned_hull(reckoned_fars(web), some)
        if len(web) + len(part) <= most:
            web = twinned(web, part)
    numbers = list(range(len(web)))
    chance.shuffle(numbers)
    return renumbered(web, numbers)


@functools.lru_cache(maxsize=None)
def small_middlewebs():
    """Of at most nine places: few enough to go through all parts."""
    made = [line_web(many) for many in range(1, 6)] + [grid_web(2, 2), grid_web(3, 2), grid_web(3, 3), cube_web(3)]
    made += [tree_web([0, 0, 0]), tree_web([0, 0, 1, 1, 2]), tree_web([0] * 7)]
    made += [renumbered(web, other_numbers(len(web))) for web in made]
    return tuple(made + [grown_web(seed, 5 + seed % 5) for seed in range(12)])


@functools.lru_cache(maxsize=None)
def middlewebs():
    made = [line_web(24), grid_web(4, 6), grid_web(12, 2), cube_web(4), tree_web([0] * 23)]
    made += [tree_web([k // 2 for k in range(23)]), tree_web([k * k % (k + 1) for k in range(17)])]
    made += [twinned(twinned(grid_web(3, 2), [0, 1, 2, 3, 4, 5]), [4, 5, 10, 11])]
    made += [renumbered(web, other_numbers(len(web))) for web in made]
    return small_middlewebs() + tuple(made + [grown_web(seed, 12 + seed) for seed in range(13)])


def other_numbers(many):
    """New numbers for the places, the same ones each time."""
    numbers = list(range(many))
    random.Random(many).shuffle(numbers)
    return numbers


def renumbered(web, numbers):
    """The web in which each place has the number that stands for it in numbers."""
    ties = [(numbers[a], numbers[b]) for a in range(len(web)) for b in web[a] if a < b]
    return web_of(len(web), ties)


def reckoned_fars(web):
    """How far places are, by letting ways lead through one more place in turn."""
    many = len(web)
    told = [[0 if a == b else 1 if b in web[a] else None for b in range(many)] for a in range(many)]
    for through in range(many):
        for a in range(many):
            for b in range(many):
                first, second = told[a][through], told[through][b]
                if first is not None and second is not None:
                    if told[a][b] is None or first + second < told[a][b]:
                        told[a][b] = first + second
    return told


def lies_between(told, a, x, b):
    if None in (told[a][b], told[a][x], told[x][b]):
        return False
    return told[a][x] + told[x][b] == told[a][b]


def reckoned_middles(told, a, b, c):
    pairs = ((a, b), (b, c), (a, c))
    return [x for x in range(len(told)) if all(lies_between(told, one, x, other) for one, other in pairs)]


def due_word(told):
    """Whether a web is a middleweb, by how far its places are."""
    many = len(told)
    if any(None in row for row in told):
        return "apart"
    threes = [(a, b, c) for a in range(many) for b in range(a, many) for c in range(b, many)]
    return "one" if all(len(reckoned_middles(told, *three)) == 1 for three in threes) else "bad"


def is_closed(told, part):
    return all(x in part for a in part for b in part for x in range(len(told)) if lies_between(told, a, x, b))


def reckoned_hull(told, some):
    """The places, and what lies between them, until nothing is left out."""
    part = sorted(set(some))
    while not is_closed(told, part):
        part = [x for x in range(len(told)) if any(lies_between(told, a, x, b) for a in part for b in part)]
    return part


def assert_outside(case, told, part, answer):
    """The answer is a tuple (a, b, x), a and b in the part, x between them and not in it."""
    case.assertEqual((type(answer), len(answer)), (tuple, 3))
    a, b, x = answer
    case.assertIn(a, part)
    case.assertIn(b, part)
    case.assertNotIn(x, part)
    case.assertTrue(lies_between(told, a, x, b))


def assert_not_closed(case, web, part, call, *handed):
    """The call is refused so, with a field three that fits the part of the web."""
    refusal = assert_refused(case, errors.NotClosed, call, *handed)
    assert_outside(case, reckoned_fars(web), part, refusal.three)


def assert_web(case, web):
    """It is a tuple of rising tuples, each tie seen from both ends."""
    case.assertEqual(web, web_of(len(web), ties_of(web)))
    case.assertEqual({type(row) for row in web} | {type(web)}, {tuple})


def all_parts(many):
    return [[x for x in range(many) if choice >> x & 1] for choice in range(2 ** many)]


@functools.lru_cache(maxsize=None)
def closed_parts(web):
    """Those of one place at least, as tuples."""
    told = reckoned_fars(web)
    return tuple(tuple(part) for part in all_parts(len(web)) if part and is_closed(told, part))


def reckoned_halves(web):
    """Both halves of each class, each once, as lists."""
    told = reckoned_fars(web)
    ends = [end for a, b in ties_of(web) for end in ((a, b), (b, a))]
    found = {tuple(x for x in range(len(web)) if told[a][x] < told[b][x]) for a, b in ends}
    return [list(half) for half in sorted(found)]


def some_places(chance, many, most):
    """Up to so many places in any order, some perhaps twice."""
    return [chance.randrange(many) for k in range(chance.randint(1, most))]


def some_parts(web):
    """Closed parts of one place at least, as lists: single places, halves, hulls, all places."""
    chance = random.Random(len(web))
    told = reckoned_fars(web)
    parts = [[x] for x in range(len(web))] + reckoned_halves(web)
    parts += [reckoned_hull(told, some_places(chance, len(web), 3)) for k in range(6)]
    return parts + [list(range(len(web)))]


def renamed(numbers, part):
    return sorted(numbers[x] for x in part)


def unlike_bits(one, other):
    return sum(bit != mate for bit, mate in zip(one, other, strict=True))
