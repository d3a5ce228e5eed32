"""How many cubes of each size are in a middleweb."""

from middleweb.ways import fars_from


# In how many ways so many things can be picked out of many.
def choices(many, picked):
    told = 1
    for k in range(picked):
        told = told * (many - k) // (k + 1)
    return told


# Each cube has one place that is the farthest from the place 0, and is told by those of its places that are tied to
# it, all nearer to 0. And any such ones of a place make a cube with it. So none is counted twice, none left out.
def cube_counts(web):
    from_first = fars_from(web, 0)
    nearer = [len([other for other in web[x] if from_first[other] < from_first[x]]) for x in range(len(web))]
    return [sum([choices(many, size) for many in nearer]) for size in range(max(nearer) + 1)]
