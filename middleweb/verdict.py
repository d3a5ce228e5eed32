"""Whether a web, of whatever sort, is a middleweb, and what shows it."""

from middleweb.classes import bit_rows
from middleweb.ways import betweens, fars_from, in_all_three


# Where any two places have no way, one of them has none from the place 0.
def told_apart(web):
    from_first = fars_from(web, 0)
    return ("apart", 0, from_first.index(None)) if None in from_first else None


# Of a web in one piece. Three of which two are alike have just that one as middle, so unlike ones are enough.
def told_bad(web):
    lying = betweens(web)
    for c in range(len(web)):
        for b in range(c):
            for a in range(b):
                found = in_all_three(lying[a][b], lying[b][c], lying[a][c])
                if len(found) != 1:
                    return ("bad", (a, b, c), found)
    return None


def looked(web):
    return told_apart(web) or told_bad(web) or ("one", bit_rows(web))
