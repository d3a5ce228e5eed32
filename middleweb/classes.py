"""Classes of ties, the halves in which each cuts its web, and rows of bits that tell these: of middlewebs."""

from middleweb.ways import fars, fars_from, middles
from middleweb.webs import ties_of


def are_in_one_class(lengths, tie, other):
    straight = lengths[tie[0]][other[0]] + lengths[tie[1]][other[1]]
    crossed = lengths[tie[0]][other[1]] + lengths[tie[1]][other[0]]
    return straight != crossed


def classes(web):
    lengths = fars(web)
    ties = ties_of(web)
    found = []
    for tie in ties:
        alike = [other for other in ties if are_in_one_class(lengths, tie, other)]
        # Each tie of a class finds the whole of it; the first one alone has it told.
        if alike[0] == tie:
            found.append(alike)
    return found


# A shortest way goes through a class once at most, so each half is what is nearer to the end of the tie that is in it.
def halves_by(web, tie):
    from_a = fars_from(web, tie[0])
    from_b = fars_from(web, tie[1])
    nearer_a = [x for x in range(len(web)) if from_a[x] < from_b[x]]
    nearer_b = [x for x in range(len(web)) if from_b[x] < from_a[x]]
    return (nearer_a, nearer_b) if 0 in nearer_a else (nearer_b, nearer_a)


def halves(web):
    return [halves_by(web, ties[0]) for ties in classes(web)]


def bit_rows(web):
    seconds = [both[1] for both in halves(web)]
    return [tuple([1 if x in second else 0 for second in seconds]) for x in range(len(web))]


def place_of(web, bits):
    rows = bit_rows(web)
    # Bits in a list would be unlike every row, whatever they are.
    due = tuple(bits)
    return rows.index(due) if due in rows else None


def middle(web, a, b, c):
    return middles(web, a, b, c)[0]
