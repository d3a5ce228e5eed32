"""What the tests share: webs to try, refusals to look at, and a second reckoning of how far places are."""

import random

from middleweb import errors
from middleweb.webs import cube_web, grid_web, line_web, tree_web, web_of

REFUSALS = (
    errors.NoWeb,
    errors.NotClosed,
    errors.TooMany,
    errors.NoFit,
    errors.NoText,
    errors.NotOne,
    errors.NoRow,
    errors.NoName,
    errors.NoPlace,
)

# Of other kinds than a whole number.
NO_NUMBERS = (None, True, False, "", "1", "a", [], [1], (), (1,), {}, {1: 1}, {1}, 1.0, 0.5, 1j, b"1", int, object())


def assert_refused(case, due, call, *handed):
    """The call is refused with just the class that is due."""
    with case.assertRaises(errors.WebError, msg=repr(handed)) as caught:
        call(*handed)
    refusal = caught.exception
    case.assertIsInstance(refusal, ValueError)
    case.assertEqual([kind for kind in REFUSALS if isinstance(refusal, kind)], [due], repr(handed))


def all_pairs(many):
    return [(a, b) for a in range(many) for b in range(a + 1, many)]


def all_webs(many):
    """Each web of so many places, by all choices of ties."""
    pairs = all_pairs(many)
    return [
        web_of(many, [pair for k, pair in enumerate(pairs) if choice >> k & 1])
        for choice in range(2 ** len(pairs))
    ]


def mixed_webs():
    """Webs of many sizes, sparse to dense, in one piece or not; the same ones each time."""
    chance = random.Random(20)
    webs = []
    for many in (5, 6, 8, 11, 16, 23, 24):
        for share in (0.05, 0.12, 0.25, 0.6, 1.0):
            webs.append(web_of(many, [pair for pair in all_pairs(many) if chance.random() < share]))
    return webs


def sample_webs():
    made = [line_web(1), line_web(7), line_web(24), grid_web(4, 6), grid_web(3, 3), cube_web(3), cube_web(4)]
    made.append(tree_web([0, 0, 1, 1, 2, 2, 3, 3]))
    made.append(web_of(6, [(0, 1), (1, 2), (2, 3), (3, 4), (4, 5), (5, 0)]))
    return all_webs(1) + all_webs(2) + all_webs(3) + all_webs(4) + made + mixed_webs()


def other_numbers(many):
    """New numbers for the places, the same ones each time."""
    numbers = list(range(many))
    random.Random(many).shuffle(numbers)
    return numbers


def renumbered(web, numbers):
    """The web in which each place has the number that stands for it in numbers."""
    ties = [(numbers[a], numbers[b]) for a in range(len(web)) for b in web[a] if a < b]
    return web_of(len(web), ties)


def reckoned_fars(web):
    """How far places are, by letting ways lead through one more place in turn."""
    many = len(web)
    told = [[0 if a == b else 1 if b in web[a] else None for b in range(many)] for a in range(many)]
    for through in range(many):
        for a in range(many):
            for b in range(many):
                first, second = told[a][through], told[through][b]
                if first is not None and second is not None:
                    if told[a][b] is None or first + second < told[a][b]:
                        told[a][b] = first + second
    return told
