import itertools
import re
import unittest

from middleweb.errors import NoText
from middleweb.texts import read_web, show_web
from middleweb.webs import cube_web, grid_web, line_web, ties_of, tree_web, web_of
from tests.helper import NO_NUMBERS, all_pairs, assert_refused, assert_web, middlewebs, ring_web, sample_webs

NUMBER = "(?:0|[1-9][0-9]?)"
FORM = re.compile(f"({NUMBER}):((?: {NUMBER}-{NUMBER})*)")

# Written as the document shows it.
TEXTS = (
    ("1:", line_web(1)),
    ("2:", web_of(2, [])),
    ("2: 0-1", line_web(2)),
    ("3: 0-1 0-2 1-2", ring_web(3)),
    ("4: 0-1 1-2 2-3", line_web(4)),
    ("4: 0-1 0-2 1-3 2-3", cube_web(2)),
    ("4: 0-3 1-2", web_of(4, [(2, 1), (3, 0)])),
    ("5: 0-1 0-2 0-3 0-4", tree_web([0, 0, 0, 0])),
    ("6: 0-1 0-5 1-2 2-3 3-4 4-5", ring_web(6)),
    ("6: 0-1 0-2 1-3 2-3 2-4 3-5 4-5", grid_web(2, 3)),
    ("9:", web_of(9, [])),
    ("10: 0-9", web_of(10, [(9, 0)])),
    ("12: 0-2 0-10 1-11 2-9 10-11", web_of(12, [(0, 10), (0, 2), (10, 11), (9, 2), (1, 11)])),
    ("24:", web_of(24, [])),
    ("24: 0-23 22-23", web_of(24, [(22, 23), (0, 23)])),
)

WRONG = (
    # A number of places that isn't so written, or that no web has.
    "", ":", "1", "0", "0:", "00:", "01:", "04: 0-1", "25:", "25: 0-1", "99:", "100:", "001:", "-1:", "+1:", "1.0:",
    "a:", "1::", ":1", "1;", "one:", "1 :", "4 : 0-1", "4 0-1", "x1:", "1:x", "4:0-1", "4:0-1 1-2", "1_0:", "0x1:",
    "24: 0-1:", "4:: 0-1", "1" * 60 + ":", "4:4: 0-1",
    # Ties that aren't so written.
    "4: 0", "4: 01", "4: 0-", "4: -1", "4: -", "4: 0-1-2", "4: 0--1", "4: 0-1,", "4: 0-1, 1-2", "4: 0-1,1-2",
    "4: 00-1", "4: 0-01", "4: 0-001", "4: 00-01", "12: 01-02", "4: 0-+1", "4: +0-1", "4: -0-1", "4: 0-1a", "4: a-b",
    "4: 0_1", "4: 0:1", "4: 0-1.", "4: (0,1)", "4: 0 1", "4: 0 - 1", "4: 0- 1", "4: 0 -1", "4: 0-11111",
    # Ties of one place, turned about, twice, out of order, of places that aren't there.
    "4: 0-0", "4: 3-3", "1: 0-0", "4: 1-0", "4: 0-1 2-1", "4: 3-0", "4: 0-1 0-1", "4: 0-1 1-0", "4: 0-1 1-2 1-2",
    "4: 0-1 1-2 0-1", "4: 0-2 0-1", "4: 1-2 0-1", "4: 0-1 2-3 1-2", "12: 0-10 0-2", "12: 1-10 1-9", "12: 10-11 2-3",
    "1: 0-1", "4: 0-4", "4: 3-4", "4: 4-5", "4: 0-1 1-99", "24: 0-24", "24: 23-24", "2: 0-1 1-2", "10: 0-10",
    # Blanks: two of them, at an end, or none; other signs in their place.
    "1: ", " 1:", "1:  ", " ", "  ", "4:  0-1", "4: 0-1  1-2", "4: 0-1 ", " 4: 0-1", "4: 0-1 1-2  ", "4: 0-11-2",
    "4:\t0-1", "4:\n0-1", "1:\n", "\n1:", "4: 0-1\n", "4: 0-1\t1-2", "4: 0-1\n1-2",
)

NO_TEXTS = NO_NUMBERS + (0, 1, 24, 10 ** 59, ["1:"], ("1:",), {"1:": "1:"}, b"1:", ["4:", "0-1"], ((1,), (0,)))


def reckoned_web(text):
    """The web that is written so, or None."""
    found = FORM.fullmatch(text)
    if found is None:
        return None
    many = int(found.group(1))
    ties = [tuple(int(end) for end in word.split("-")) for word in found.group(2).split()]
    in_order = all(one < other for one, other in zip(ties, ties[1:]))
    if not 1 <= many <= 24 or not in_order or not all(a < b < many for a, b in ties):
        return None
    return web_of(many, ties)


def changed_texts(text):
    """The text with a sign left out, put in, or put in the place of another one."""
    signs = " :-0123456789"
    left_out = [text[:k] + text[k + 1:] for k in range(len(text))]
    put_in = [text[:k] + sign + text[k:] for k in range(len(text) + 1) for sign in signs]
    replaced = [text[:k] + sign + text[k + 1:] for k in range(len(text)) for sign in signs]
    return left_out + put_in + replaced


class ShowWeb(unittest.TestCase):
    def test_written_out(self):
        for text, web in TEXTS:
            self.assertEqual(show_web(web), text)

    def test_all_ties(self):
        pairs = all_pairs(24)
        due = "24:" + "".join(f" {a}-{b}" for a, b in pairs)
        self.assertEqual(show_web(web_of(24, pairs[::-1])), due)

    def test_the_form(self):
        for web in sample_webs():
            text = show_web(web)
            self.assertIs(type(text), str)
            self.assertIsNotNone(FORM.fullmatch(text), text)
            many, ties = text.split(":")
            self.assertEqual(int(many), len(web))
            found = [tuple(int(end) for end in word.split("-")) for word in ties.split()]
            self.assertEqual(found, ties_of(web))


class ReadWeb(unittest.TestCase):
    def test_written_out(self):
        for text, web in TEXTS:
            self.assertEqual(read_web(text), web)

    def test_each_many(self):
        for many in range(1, 25):
            self.assertEqual(read_web(f"{many}:"), web_of(many, []))

    def test_each_tie(self):
        for a, b in all_pairs(24):
            self.assertEqual(read_web(f"24: {a}-{b}"), web_of(24, [(a, b)]))
            assert_refused(self, NoText, read_web, f"24: {b}-{a}")
            assert_refused(self, NoText, read_web, f"{b}: {a}-{b}")

    def test_shown_and_read_again(self):
        for web in sample_webs() + list(middlewebs()):
            text = show_web(web)
            told = read_web(text)
            self.assertEqual(told, web)
            assert_web(self, told)
            self.assertEqual(show_web(told), text)

    def test_many_ties(self):
        pairs = all_pairs(24)
        text = show_web(web_of(24, pairs))
        self.assertEqual(read_web(text), web_of(24, pairs))
        words = text.split(" ")
        assert_refused(self, NoText, read_web, " ".join(words + words[-1:]))
        assert_refused(self, NoText, read_web, " ".join(words[:100] + [words[101], words[100]] + words[102:]))
        assert_refused(self, NoText, read_web, text + " ")

    def test_refused(self):
        for text in WRONG:
            assert_refused(self, NoText, read_web, text)

    def test_what_is_no_text(self):
        for thing in NO_TEXTS:
            if not isinstance(thing, str):
                assert_refused(self, NoText, read_web, thing)

    def test_figures_of_other_scripts(self):
        for text in ("\u0661:", "\u00b2:", "\uff11:", "4: 0-\u0661", "4: \u00b9-2", "4:\u00a00-1"):
            assert_refused(self, NoText, read_web, text)

    def test_long_texts(self):
        for text in ("1" * 4000, "1:" + " " * 3998, "24:" + " 0-1" * 999, "4: " + "0" * 3990, "-" * 4000, ":" * 4000):
            assert_refused(self, NoText, read_web, text)

    def test_one_sign_changed(self):
        read = 0
        for text, web in TEXTS:
            for changed in changed_texts(text):
                due = reckoned_web(changed)
                if due is None:
                    assert_refused(self, NoText, read_web, changed)
                else:
                    read += 1
                    self.assertEqual(read_web(changed), due)
                    self.assertEqual(show_web(due), changed)
        self.assertGreater(read, 300)

    def test_all_short_texts(self):
        for many in range(4):
            for signs in itertools.product(" :-0123", repeat=many):
                text = "".join(signs)
                due = reckoned_web(text)
                if due is None:
                    assert_refused(self, NoText, read_web, text)
                else:
                    self.assertEqual(read_web(text), due)

    def test_words_in_any_order(self):
        for words in itertools.permutations(["4:", "0-1", "1-2", "2-3"]):
            text = " ".join(words)
            if text == "4: 0-1 1-2 2-3":
                self.assertEqual(read_web(text), line_web(4))
            else:
                assert_refused(self, NoText, read_web, text)

    def test_another_text_between(self):
        told = read_web("3: 0-1")
        read_web("3: 1-2")
        assert_refused(self, NoText, read_web, "3: 2-1")
        self.assertEqual(told, web_of(3, [(0, 1)]))
        self.assertEqual(read_web("3: 0-1"), told)


if __name__ == "__main__":
    unittest.main()
