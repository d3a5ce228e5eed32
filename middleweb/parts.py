"""Closed parts of middlewebs: hulls, gates, and what parts have in common."""

from middleweb.classes import bit_rows
from middleweb.errors import NotClosed
from middleweb.ways import betweens, fars_from


def outside(web, part):
    lying = betweens(web)
    for a in part:
        for b in part:
            left_out = [x for x in lying[a][b] if x not in part]
            if left_out:
                return (a, b, left_out[0])
    return None


def check_closed(web, part):
    three = outside(web, part)
    if three is not None:
        raise NotClosed(three)


# The numbers of the classes of which all these rows are in one half.
def agreed_classes(rows):
    return [k for k, bit in enumerate(rows[0]) if all([row[k] == bit for row in rows])]


def hull(web, some):
    # Each half has all of no places, but a web of one place has no half to leave that place out.
    if not some:
        return []
    rows = bit_rows(web)
    first = rows[some[0]]
    numbers = agreed_classes([rows[place] for place in some])
    return [x for x, row in enumerate(rows) if all([row[k] == first[k] for k in numbers])]


# It lies between x and each place of the part, so no place of the part is as near to x.
def gate(web, part, x):
    from_x = fars_from(web, x)
    return min(part, key=lambda place: from_x[place])


def have_common(one, other):
    return any([place in other for place in one])


def shared(web, parts):
    for i, one in enumerate(parts):
        for j in range(i + 1, len(parts)):
            if not have_common(one, parts[j]):
                return ("apart", i, j)
    # Closed parts of which each two meet have a place in common, so there is a least one.
    return ("place", min([x for x in range(len(web)) if all([x in part for part in parts])]))
