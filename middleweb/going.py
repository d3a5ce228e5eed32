"""How much going it is for people to meet at a place of a middleweb, and where it is least."""

from middleweb.classes import halves
from middleweb.ways import fars_from


def going_to(web, people, x):
    from_x = fars_from(web, x)
    return sum([many * from_x[place] for place, many in enumerate(people)])


def people_in(people, half):
    return sum([people[place] for place in half])


def gathered(web, people):
    goings = [going_to(web, people, x) for x in range(len(web))]
    least = min(goings)
    places = [x for x, going in enumerate(goings) if going == least]
    sides = [(people_in(people, both[0]), people_in(people, both[1])) for both in halves(web)]
    return (least, places, sides)


def lighter(web, people, x):
    here = going_to(web, people, x)
    return min([other for other in web[x] if going_to(web, people, other) < here], default=None)
