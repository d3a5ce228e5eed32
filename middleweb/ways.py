"""Ways, how far places are, what lies between them: of any webs, in one piece or not."""


# For each place how far it is from start, None where there is no way.
def fars_from(web, start):
    told = [None] * len(web)
    told[start] = 0
    reached = [start]
    steps = 0
    while reached:
        steps = steps + 1
        newly = []
        for place in reached:
            for other in web[place]:
                if told[other] is None:
                    told[other] = steps
                    newly.append(other)
        reached = newly
    return told


def far(web, a, b):
    return fars_from(web, a)[b]


def fars(web):
    return [fars_from(web, place) for place in range(len(web))]


# There is always one: a shortest way goes through it.
def one_nearer(web, to_goal, place):
    return [other for other in web[place] if to_goal[other] < to_goal[place]][0]


def way_between(web, a, b):
    to_goal = fars_from(web, b)
    if to_goal[a] is None:
        return None
    way = [a]
    while way[-1] != b:
        way.append(one_nearer(web, to_goal, way[-1]))
    return way


def between(web, a, b):
    from_a = fars_from(web, a)
    from_b = fars_from(web, b)
    if from_a[b] is None:
        return []
    # What a way from a reaches, one from b reaches too: neither is None without the other.
    reached = [x for x in range(len(web)) if from_a[x] is not None]
    return [x for x in reached if from_a[x] + from_b[x] == from_a[b]]


def middles(web, a, b, c):
    of_first = between(web, a, b)
    of_second = between(web, b, c)
    of_third = between(web, a, c)
    return [x for x in of_first if x in of_second and x in of_third]
