import inspect
import unittest

from middleweb import (
    classes,
    cubes,
    desk,
    doublings,
    errors,
    going,
    joins,
    parts,
    texts,
    verdict,
    versions,
    ways,
    webs,
)

ARGUMENTS = (
    (errors.NotClosed, ["three"]),
    (errors.NoFit, ["pair"]),
    (webs.web_of, ["many", "ties"]),
    (webs.ties_of, ["web"]),
    (webs.line_web, ["many"]),
    (webs.grid_web, ["wide", "high"]),
    (webs.cube_web, ["size"]),
    (webs.tree_web, ["parents"]),
    (ways.far, ["web", "a", "b"]),
    (ways.fars, ["web"]),
    (ways.way_between, ["web", "a", "b"]),
    (ways.between, ["web", "a", "b"]),
    (ways.middles, ["web", "a", "b", "c"]),
    (verdict.looked, ["web"]),
    (classes.classes, ["web"]),
    (classes.halves, ["web"]),
    (classes.bit_rows, ["web"]),
    (classes.place_of, ["web", "bits"]),
    (classes.middle, ["web", "a", "b", "c"]),
    (parts.outside, ["web", "part"]),
    (parts.hull, ["web", "some"]),
    (parts.gate, ["web", "part", "x"]),
    (parts.shared, ["web", "parts"]),
    (going.going_to, ["web", "people", "x"]),
    (going.gathered, ["web", "people"]),
    (going.lighter, ["web", "people", "x"]),
    (doublings.doubled, ["web", "part"]),
    (doublings.grown, ["parts"]),
    (doublings.unfolded, ["web"]),
    (doublings.folded, ["web", "number"]),
    (joins.side_by_side, ["one", "other"]),
    (joins.glued, ["one", "part", "other", "mates"]),
    (joins.unfilled, ["web", "part"]),
    (joins.filled, ["web", "some"]),
    (joins.kept_part, ["web", "part"]),
    (versions.versions_far, ["web", "one", "other"]),
    (versions.merged, ["web", "old", "hands"]),
    (versions.agreed, ["web", "versions"]),
    (cubes.cube_counts, ["web"]),
    (texts.show_web, ["web"]),
    (texts.read_web, ["text"]),
    (desk.Desk, []),
    (desk.Desk().say, ["row"]),
)


class Interface(unittest.TestCase):
    def test_arguments(self):
        for called, names in ARGUMENTS:
            found = inspect.signature(called).parameters.values()
            self.assertEqual([one.name for one in found], names, called)
            for one in found:
                self.assertIs(one.default, inspect.Parameter.empty)
                self.assertIs(one.kind, inspect.Parameter.POSITIONAL_OR_KEYWORD)


if __name__ == "__main__":
    unittest.main()
