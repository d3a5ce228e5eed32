"""Middlewebs doubled by closed parts, unfolded from one place by such doublings, and folded by a class."""

from middleweb.classes import classes, halves
from middleweb.joins import kept_part
from middleweb.parts import check_closed
from middleweb.webs import check_room, line_web, ties_of, web_of


def doubled(web, part):
    check_closed(web, part)
    many = len(web)
    check_room(many + len(part))
    inner = [tie for tie in ties_of(web) if tie[0] in part and tie[1] in part]
    to_twins = [(place, many + k) for k, place in enumerate(part)]
    of_twins = [(many + part.index(tie[0]), many + part.index(tie[1])) for tie in inner]
    return web_of(many + len(part), ties_of(web) + to_twins + of_twins)


def grown(parts):
    web = line_web(1)
    for part in parts:
        web = doubled(web, part)
    return web


# A half within it wouldn't have the place 0 either, so there is none. So each of its places is tied to the other
# half: it is the twins of a part of that.
def least_half(web):
    return min([both[1] for both in halves(web)], key=len)


# The place of the half that is tied to this one of the other half, or None; there is one at most.
def twin_in(web, half, place):
    return max([other for other in web[place] if other in half], default=None)


def unfolded(web):
    if len(web) == 1:
        return ([], [0])
    twins = least_half(web)
    rest = [x for x in range(len(web)) if x not in twins]
    before = unfolded(kept_part(web, rest))
    order = [rest[k] for k in before[1]]
    part = [k for k, place in enumerate(order) if twin_in(web, twins, place) is not None]
    return (before[0] + [part], order + [twin_in(web, twins, order[k]) for k in part])


# For each place the least one of those that become one with it; a place is in one tie of a class at most.
def least_alike(many, ties):
    least = list(range(many))
    for tie in ties:
        least[tie[1]] = tie[0]
    return least


def rising_tie(a, b):
    return (a, b) if a < b else (b, a)


def folded(web, number):
    least = least_alike(len(web), classes(web)[number])
    left = [x for x, first in enumerate(least) if x == first]
    becomes = [left.index(first) for first in least]
    ties = [rising_tie(becomes[tie[0]], becomes[tie[1]]) for tie in ties_of(web)]
    # Two ties of the web may become one, and those of the class become none.
    return (web_of(len(left), sorted(set([tie for tie in ties if tie[0] != tie[1]]))), becomes)
