"""Webs: for each place the rising tuple of the places tied to it."""

from middleweb.errors import NoWeb, TooMany

MOST_PLACES = 24

# How many places a cube has, by its size.
CUBE_PLACES = (1, 2, 4, 8, 16)

# The numbers with just one bit, as far as places of a cube reach.
SINGLE_BITS = (1, 2, 4, 8)


# Python counts True and False as ints; here they are no whole numbers.
def is_whole(thing):
    return isinstance(thing, int) and not isinstance(thing, bool)


def is_whole_within(thing, least, most):
    return is_whole(thing) and least <= thing <= most


def check_number(thing, least, most):
    if not is_whole_within(thing, least, most):
        raise NoWeb(f"due is a whole number from {least} to {most}")


# Of webs that are made of others.
def check_room(many):
    if many > MOST_PLACES:
        raise TooMany(f"{many} places are more than {MOST_PLACES}")


def check_tie(many, tie):
    if not isinstance(tie, tuple) or len(tie) != 2:
        raise NoWeb("a tie is a tuple of two places")
    for place in tie:
        check_number(place, 0, many - 1)
    if tie[0] == tie[1]:
        raise NoWeb("a tie is between two unlike places")


def tied_places(marks):
    return tuple([place for place, is_tied in enumerate(marks) if is_tied])


def web_of(many, ties):
    check_number(many, 1, MOST_PLACES)
    if not isinstance(ties, list):
        raise NoWeb("ties are a list")
    marks = [[False] * many for place in range(many)]
    for tie in ties:
        check_tie(many, tie)
        if marks[tie[0]][tie[1]]:
            raise NoWeb("a tie stands twice")
        marks[tie[0]][tie[1]] = True
        marks[tie[1]][tie[0]] = True
    return tuple([tied_places(row) for row in marks])


def ties_of(web):
    ties = []
    for place, tied in enumerate(web):
        ties.extend([(place, other) for other in tied if place < other])
    return ties


def line_web(many):
    check_number(many, 1, MOST_PLACES)
    return web_of(many, [(place, place + 1) for place in range(many - 1)])


def grid_web(wide, high):
    check_number(wide, 1, MOST_PLACES)
    check_number(high, 1, MOST_PLACES)
    many = wide * high
    in_rows = [(place, place + 1) for place in range(many) if (place + 1) % wide != 0]
    in_columns = [(place, place + wide) for place in range(many - wide)]
    return web_of(many, in_rows + in_columns)


def cube_web(size):
    check_number(size, 0, len(CUBE_PLACES) - 1)
    many = CUBE_PLACES[size]
    ties = []
    for place in range(many):
        ties.extend([(other, place) for other in range(place) if other ^ place in SINGLE_BITS])
    return web_of(many, ties)


def tree_web(parents):
    if not isinstance(parents, list):
        raise NoWeb("the parents are a list")
    # Without this [2, 0] would make a web, though its place 1 is tied to a later one.
    for before, parent in enumerate(parents):
        check_number(parent, 0, before)
    return web_of(len(parents) + 1, [(parent, before + 1) for before, parent in enumerate(parents)])
