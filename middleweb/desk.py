"""The desk, which keeps middlewebs by names and answers rows of words."""

from middleweb.classes import bit_rows, classes, middle
from middleweb.cubes import cube_counts
from middleweb.doublings import doubled, folded, unfolded
from middleweb.errors import NoName, NoPlace, NoRow, NotOne
from middleweb.going import gathered
from middleweb.joins import glued, side_by_side
from middleweb.parts import gate, hull
from middleweb.texts import MOST_FIGURES, is_number, read_web, show_web
from middleweb.verdict import looked
from middleweb.ways import between, far
from middleweb.webs import cube_web, line_web

SMALL_LETTERS = "abcdefghijklmnopqrstuvwxyz"

LONGEST_NAME = 8

# The greatest number of one or two figures; whether there is such a line or cube, the stages tell.
MOST_SIZE = 99

PEOPLE_FIGURES = 10

MOST_PEOPLE = 1000000000

# How many words each row has, the first word among them.
ROW_WORDS = {
    "web": 3, "line": 3, "cube": 3, "side": 4, "double": 4, "fold": 4, "glue": 6,
    "show": 2, "far": 4, "middle": 5, "hull": 3, "between": 4, "gate": 5, "bits": 3, "gather": 3, "cubes": 2,
    "unfold": 2,
}

# These may have more words.
OPEN_ROWS = ("double", "hull", "gather")


def is_row(words):
    due = ROW_WORDS.get(words[0])
    if due is None:
        return False
    return len(words) == due or (len(words) > due and words[0] in OPEN_ROWS)


def words_of(row):
    if not isinstance(row, str):
        raise NoRow("a row is a text")
    # The text of a web is one word here, whatever blanks are in it.
    words = row.split(" ", 2) if row.startswith("web ") else row.split(" ")
    if not is_row(words):
        raise NoRow("there is no row of such a first word with so many words")
    return words


def check_name(word):
    if not 1 <= len(word) <= LONGEST_NAME or not all([sign in SMALL_LETTERS for sign in word]):
        raise NoName(f"a name is one to {LONGEST_NAME} small letters")


def web_by(webs, word):
    if word not in webs:
        raise NoName(f"nothing stands by {word!r}")
    return webs[word]


def number_of(word, figures, most):
    if not is_number(word, figures) or int(word) > most:
        raise NoPlace(f"{word!r} is no number up to {most}")
    return int(word)


def place_in(web, word):
    return number_of(word, MOST_FIGURES, len(web) - 1)


def places_in(web, words):
    return [place_in(web, word) for word in words]


def people_for(web, words):
    if len(words) != len(web):
        raise NoRow("there is a number of people for each place")
    return [number_of(word, PEOPLE_FIGURES, MOST_PEOPLE) for word in words]


def with_blanks(numbers):
    return " ".join([str(number) for number in numbers])


def make_web(webs, words):
    web = read_web(words[2])
    if looked(web)[0] != "one":
        raise NotOne("the web is no middleweb")
    return web


def make_line(webs, words):
    return line_web(number_of(words[2], MOST_FIGURES, MOST_SIZE))


def make_cube(webs, words):
    return cube_web(number_of(words[2], MOST_FIGURES, MOST_SIZE))


def make_side(webs, words):
    return side_by_side(web_by(webs, words[2]), web_by(webs, words[3]))


def make_double(webs, words):
    web = web_by(webs, words[2])
    return doubled(web, hull(web, places_in(web, words[3:])))


def make_fold(webs, words):
    web = web_by(webs, words[2])
    return folded(web, number_of(words[3], MOST_FIGURES, len(classes(web)) - 1))[0]


def make_glue(webs, words):
    one = web_by(webs, words[2])
    x = place_in(one, words[3])
    other = web_by(webs, words[4])
    return glued(one, [x], other, [place_in(other, words[5])])


def ask_show(web, words):
    return show_web(web)


def ask_far(web, words):
    places = places_in(web, words)
    return str(far(web, places[0], places[1]))


def ask_middle(web, words):
    places = places_in(web, words)
    return str(middle(web, places[0], places[1], places[2]))


def ask_hull(web, words):
    return with_blanks(hull(web, places_in(web, words)))


def ask_between(web, words):
    places = places_in(web, words)
    return with_blanks(between(web, places[0], places[1]))


def ask_gate(web, words):
    places = places_in(web, words)
    return str(gate(web, hull(web, places[1:]), places[0]))


def ask_bits(web, words):
    return with_blanks(bit_rows(web)[place_in(web, words[0])])


def ask_gather(web, words):
    told = gathered(web, people_for(web, words))
    going = told[0]
    return with_blanks([f"{going}:"] + told[1])


def ask_cubes(web, words):
    return with_blanks(cube_counts(web))


def ask_unfold(web, words):
    parts = unfolded(web)[0]
    return " ".join([",".join([str(place) for place in part]) for part in parts])


MAKERS = {
    "web": make_web, "line": make_line, "cube": make_cube, "side": make_side, "double": make_double,
    "fold": make_fold, "glue": make_glue,
}

ASKERS = {
    "show": ask_show, "far": ask_far, "middle": ask_middle, "hull": ask_hull, "between": ask_between,
    "gate": ask_gate, "bits": ask_bits, "gather": ask_gather, "cubes": ask_cubes, "unfold": ask_unfold,
}


class Desk:
    def __init__(self):
        self.webs = {}

    def say(self, row):
        words = words_of(row)
        if words[0] in ASKERS:
            return ASKERS[words[0]](web_by(self.webs, words[1]), words[2:])
        check_name(words[1])
        self.webs[words[1]] = MAKERS[words[0]](self.webs, words)
        return "ok"
