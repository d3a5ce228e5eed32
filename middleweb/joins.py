"""Middlewebs put together of two, and the parts that have all their middles."""

from middleweb.errors import NoFit
from middleweb.parts import check_closed
from middleweb.ways import betweens, in_all_three
from middleweb.webs import check_room, ties_of, web_of


def side_by_side(one, other):
    many = len(other)
    check_room(len(one) * many)
    ties = []
    for a in range(len(one)):
        ties.extend([(a * many + tie[0], a * many + tie[1]) for tie in ties_of(other)])
    for b in range(many):
        ties.extend([(tie[0] * many + b, tie[1] * many + b) for tie in ties_of(one)])
    return web_of(len(one) * many, ties)


def check_fit(one, part, other, mates):
    for i, place in enumerate(part):
        for j in range(i + 1, len(part)):
            if (part[j] in one[place]) != (mates[j] in other[mates[i]]):
                raise NoFit((i, j))


# For each place of the other web the one that it is in the glued web.
def glued_places(one, part, other, mates):
    left = [y for y in range(len(other)) if y not in mates]
    return [len(one) + left.index(y) if y in left else part[mates.index(y)] for y in range(len(other))]


def glued(one, part, other, mates):
    check_closed(one, part)
    check_closed(other, sorted(mates))
    check_fit(one, part, other, mates)
    many = len(one) + len(other) - len(part)
    check_room(many)
    becomes = glued_places(one, part, other, mates)
    # Two mates are tied just where their places are, so the one web has these ties.
    new = [tie for tie in ties_of(other) if tie[0] not in mates or tie[1] not in mates]
    return web_of(many, ties_of(one) + [(becomes[tie[0]], becomes[tie[1]]) for tie in new])


# Three places of the part and their middle, which isn't in it, or None; by what lies between any two.
def three_and_middle(lying, part):
    for a in part:
        for b in part:
            for c in part:
                # Any order of three has the same middle, and of two alike it is one of them.
                if a < b < c:
                    x = in_all_three(lying[a][b], lying[b][c], lying[a][c])[0]
                    if x not in part:
                        return (a, b, c, x)
    return None


def unfilled(web, part):
    found = three_and_middle(betweens(web), part)
    return None if found is None else found[:3]


def filled(web, some):
    lying = betweens(web)
    part = sorted(set(some))
    found = three_and_middle(lying, part)
    while found is not None:
        part = sorted(part + [found[3]])
        found = three_and_middle(lying, part)
    return part


def kept_part(web, part):
    return tuple([tuple([part.index(other) for other in web[place] if other in part]) for place in part])
