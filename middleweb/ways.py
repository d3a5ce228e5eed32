"""Ways, how far places are, what lies between them: of any webs, in one piece or not."""


# For each place how far it is from start, None where there is no way.
def fars_from(web, start):
    told = [None] * len(web)
    told[start] = 0
    reached = [start]
    steps = 0
    while reached:
        steps = steps + 1
        newly = []
        for place in reached:
            for other in web[place]:
                if told[other] is None:
                    told[other] = steps
                    newly.append(other)
        reached = newly
    return told


def far(web, a, b):
    return fars_from(web, a)[b]


def fars(web):
    return [fars_from(web, place) for place in range(len(web))]


# There is always one: a shortest way goes through it.
def one_nearer(web, to_goal, place):
    return [other for other in web[place] if to_goal[other] < to_goal[place]][0]


def way_between(web, a, b):
    to_goal = fars_from(web, b)
    if to_goal[a] is None:
        return None
    way = [a]
    while way[-1] != b:
        way.append(one_nearer(web, to_goal, way[-1]))
    return way


# The places between a and b, by how far each place is from a, and from b.
def between_by(from_a, from_b, b):
    if from_a[b] is None:
        return []
    # What a way from a reaches, one from b reaches too: neither is None without the other.
    reached = [x for x in range(len(from_a)) if from_a[x] is not None]
    return [x for x in reached if from_a[x] + from_b[x] == from_a[b]]


def between(web, a, b):
    return between_by(fars_from(web, a), fars_from(web, b), b)


# For each place a list with, for each place, those between the two.
def betweens(web):
    lengths = fars(web)
    return [[between_by(from_a, from_b, b) for b, from_b in enumerate(lengths)] for from_a in lengths]


def in_all_three(first, second, third):
    return [x for x in first if x in second and x in third]


def middles(web, a, b, c):
    return in_all_three(between(web, a, b), between(web, b, c), between(web, a, c))
