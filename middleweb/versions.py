"""Versions, lists of places of a middleweb: how far they are, merged of many hands, and agreed on."""

from middleweb.ways import fars


def versions_far(web, one, other):
    lengths = fars(web)
    return sum([lengths[place][other[k]] for k, place in enumerate(one)])


# Whether a way from the old place to z can lead through each of these; by how far all places are from one another.
def takes_in(lengths, old, places, z):
    return all([lengths[old][place] + lengths[place][z] == lengths[old][z] for place in places])


# Of those that take all in, the least far from the old one lies on ways to all the others, so there is just one.
def merged_place(lengths, old, places):
    found = [z for z in range(len(lengths)) if takes_in(lengths, old, places, z)]
    return min(found, key=lambda z: lengths[old][z], default=None)


# Places of which each two can be merged can all be merged, so where these can't be there are such two.
def first_clash(lengths, old, places):
    for i, place in enumerate(places):
        for j in range(i + 1, len(places)):
            if merged_place(lengths, old, [place, places[j]]) is None:
                return (i, j)
    return None


def merged(web, old, hands):
    lengths = fars(web)
    version = []
    for k, place in enumerate(old):
        theirs = [hand[k] for hand in hands]
        found = merged_place(lengths, place, theirs)
        if found is None:
            return ("clash", k) + first_clash(lengths, place, theirs)
        version.append(found)
    return ("merged", version)


# Of an odd number of people there are more in one half of each class, so just one place has the least going.
def meeting_place(lengths, places):
    goings = [sum([from_x[place] for place in places]) for from_x in lengths]
    return goings.index(min(goings))


def agreed(web, versions):
    lengths = fars(web)
    return [meeting_place(lengths, [version[k] for version in versions]) for k in range(len(versions[0]))]
