"""Webs, of whatever sort, written as texts and read."""

from middleweb.errors import NoText
from middleweb.webs import MOST_PLACES, ties_of, web_of

FIGURES = "0123456789"

# Of a number of places, and of a place.
MOST_FIGURES = 2


# Whether it is a number so written: one figure to most of them, without a nought ahead but in 0 itself.
def is_number(word, most):
    if not 1 <= len(word) <= most or (word[0] == "0" and word != "0"):
        return False
    return all([sign in FIGURES for sign in word])


def show_web(web):
    many = len(web)
    return " ".join([f"{many}:"] + [str(tie[0]) + "-" + str(tie[1]) for tie in ties_of(web)])


def read_many(word):
    figures = word[:-1]
    if not word.endswith(":") or not is_number(figures, MOST_FIGURES):
        raise NoText("a web begins with how many places it has, and a colon")
    if not 1 <= int(figures) <= MOST_PLACES:
        raise NoText(f"a web has 1 to {MOST_PLACES} places")
    return int(figures)


def read_tie(many, word):
    ends = word.split("-")
    if len(ends) != 2 or not all([is_number(end, MOST_FIGURES) for end in ends]):
        raise NoText(f"{word!r} is no tie")
    tie = (int(ends[0]), int(ends[1]))
    if not tie[0] < tie[1] < many:
        raise NoText(f"{word!r} doesn't rise, or has a place that isn't there")
    return tie


def read_web(text):
    if not isinstance(text, str):
        raise NoText("what is read is a text")
    words = text.split(" ")
    many = read_many(words[0])
    ties = [read_tie(many, word) for word in words[1:]]
    if ties != sorted(set(ties)):
        raise NoText("the ties stand in order, each once")
    return web_of(many, ties)
