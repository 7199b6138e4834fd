"""Papers: which are right, and what they deny."""

import random
import unittest

from drawn import drawn_flow, walk
from flowing import FlowCase, all_told, flow_of, pulled, steps_of
from leastpull.papers import Paper, denies_row, denies_source, is_right, paper_of
from reference import Reference

UNLIMITED = (None,)


class PaperCase(FlowCase):
    def assert_right(self, flow, remaining, demands, looks):
        self.assertIs(is_right(flow, Paper(remaining, demands, looks)), True)

    def assert_not_right(self, flow, remaining, demands, looks):
        """Not right, and so it denies nothing."""
        paper = Paper(remaining, demands, looks)
        self.assertIs(is_right(flow, paper), False)
        for node, rows in enumerate(flow.produced()):
            self.assertIs(denies_source(flow, paper, node), False)
            for index in range(len(rows)):
                self.assertIs(denies_row(flow, paper, node, index), False)


class OwnPaperTest(PaperCase):
    def test_its_fields(self):
        flow = flow_of("source, take 2 0", [1], [[1, 2, 3]])
        paper = paper_of(flow)
        self.assertIsInstance(paper, Paper)
        self.assertEqual((paper.remaining, paper.demands, paper.looks), ([None, 2], [2, 2], [[], [2]]))
        named = Paper(looks=[[]], demands=[1], remaining=UNLIMITED)
        self.assertEqual((named.demands, named.looks), ([1], [[]]))

    def test_it_is_right_and_denies_just_what_is_not_kept_and_not_open(self):
        for seed in range(250):
            rng = random.Random(seed)
            flow = drawn_flow(rng)
            for _ in walk(rng, flow, 30):
                paper = paper_of(flow)
                self.assertEqual(paper.remaining, flow.remaining())
                self.assertEqual(paper.demands, flow.demands())
                self.assertEqual(paper.looks, flow.looks())
                self.assertIs(is_right(flow, paper), True)
                for node, kept in enumerate(flow.kept()):
                    for index in range(len(flow.produced()[node])):
                        self.assertIs(denies_row(flow, paper, node, index), index not in kept, seed)
                for node, _, state in flow.sources():
                    self.assertIs(denies_source(flow, paper, node), state != "open", seed)

    def test_nothing_changes(self):
        flow = flow_of("source, take 2 0, scan 0 1", [2], [[1, 2, 3]], [(1, 1, 0)])
        flow.pull(0)
        told = all_told(flow)
        paper = paper_of(flow)
        parts = repr((paper.remaining, paper.demands, paper.looks))
        is_right(flow, paper)
        denies_row(flow, paper, 0, 0)
        denies_source(flow, paper, 0)
        self.assertEqual(all_told(flow), told)
        self.assertEqual(repr((paper.remaining, paper.demands, paper.looks)), parts)


class ChangedPaperTest(PaperCase):
    def test_a_bound_that_is_lower_by_one(self):
        lowered = 0
        for seed in range(100):
            rng = random.Random(seed)
            flow = drawn_flow(rng)
            for _ in walk(rng, flow, 15):
                for paper, bounds, at in every_bound(flow):
                    if bounds[at] is None or bounds[at] > 0:
                        bounds[at] = 10 ** 6 if bounds[at] is None else bounds[at] - 1
                        self.assertIs(is_right(flow, paper), False, (seed, at))
                        lowered += 1
        self.assertGreater(lowered, 1000)

    def test_a_bound_that_is_changed_in_any_way(self):
        found = {True: 0, False: 0}
        for seed in range(100):
            rng = random.Random(seed)
            flow = drawn_flow(rng)
            for _ in walk(rng, flow, 15):
                for paper, bounds, at in every_bound(flow):
                    bounds[at] = rng.choice((None, (bounds[at] or 0) + 1, rng.randint(0, 9)))
                    told = is_right(flow, paper)
                    self.assertIs(told, Reference(flow).is_right(paper.remaining, paper.demands, paper.looks))
                    found[told] += 1
                    self.assert_denies_little(flow, paper, told, seed)
        self.assertGreater(min(found.values()), 1000)

    def assert_denies_little(self, flow, paper, told, seed):
        """Whatever a paper denies is not kept or not open."""
        for node, kept in enumerate(flow.kept()):
            for index in range(len(flow.produced()[node])):
                if denies_row(flow, paper, node, index):
                    self.assertTrue(told and index not in kept, seed)
        for node, _, state in flow.sources():
            if denies_source(flow, paper, node):
                self.assertTrue(told and state != "open", seed)

    def test_papers_without_bounds_are_right(self):
        for seed in range(50):
            flow = drawn_flow(random.Random(seed))
            flow.pull(0)
            paper = paper_of(flow)
            self.assert_right(
                flow, [None] * len(paper.remaining), [None] * len(paper.demands),
                [[None] * len(looks) for looks in paper.looks],
            )


def every_bound(flow):
    """For each bound the flow's own paper, made anew, the list in it, and the place in the list."""
    shape = paper_of(flow)
    for at in range(len(shape.remaining)):
        paper = paper_of(flow)
        yield paper, paper.remaining, at
        paper = paper_of(flow)
        yield paper, paper.demands, at
        for place in range(len(shape.looks[at])):
            paper = paper_of(flow)
            yield paper, paper.looks[at], place


class TablesTest(PaperCase):
    """The example of the document, behind the first pull, with bounds changed one by one."""

    def setUp(self):
        self.flow = flow_of("source, take 2 0, drop 1 0, zip 1 2", [3], [[3, 1, 4, 1, 5]])
        self.flow.pull(0)

    def test_as_the_tables_tell(self):
        self.assert_right(self.flow, [None, 1, None, 1], [1, 1, 1, 1], [[], [1], [1], [1, 1]])

    def test_remaining_outputs(self):
        own = [1, 1, 1, 1], [[], [1], [1], [1, 1]]
        self.assert_not_right(self.flow, [9, 1, None, 1], *own)
        self.assert_not_right(self.flow, [None, 0, None, 1], *own)
        self.assert_not_right(self.flow, [None, 1, 10 ** 9, 1], *own)
        self.assert_not_right(self.flow, [None, 1, None, 0], *own)
        # Node 1 takes one more row at most, so a greater bound lets the zip have more.
        self.assert_not_right(self.flow, [None, 2, None, 1], *own)
        self.assert_not_right(self.flow, [None, 1, None, 2], *own)

    def test_a_bound_higher_all_along(self):
        looks = [[], [2], [2], [2, 2]]
        self.assert_right(self.flow, [None, 2, None, 2], [2, 2, 2, 2], looks)
        paper = Paper([None, 2, None, 2], [2, 2, 2, 2], looks)
        self.assertTrue(denies_row(self.flow, paper, 0, 0))
        self.assertFalse(denies_row(self.flow, paper, 0, 1))
        self.assert_not_right(self.flow, [None, 2, None, 2], [2, 2, 2, 1], looks)
        self.assert_not_right(self.flow, [None, 2, None, 2], [1, 2, 2, 2], looks)
        self.assert_not_right(self.flow, [None, 2, None, 2], [2, 2, 2, 2], [[], [2], [2], [2, 1]])

    def test_demands(self):
        remaining, looks = [None, 1, None, 1], [[], [1], [1], [1, 1]]
        for at in range(4):
            demands = [1, 1, 1, 1]
            demands[at] = 0
            self.assert_not_right(self.flow, remaining, demands, looks)
        self.assert_right(self.flow, remaining, [9, 1, 1, 1], looks)
        self.assert_right(self.flow, remaining, [None, 1, 1, 1], looks)
        self.assert_not_right(self.flow, remaining, [1, 1, 2, 1], looks)
        self.assert_right(self.flow, remaining, [2, 1, 2, 1], [[], [1], [2], [1, 1]])
        # The look of the take is bounded by what is available as well.
        self.assert_not_right(self.flow, remaining, [1, 2, 1, 1], looks)
        self.assert_right(self.flow, remaining, [2, 2, 1, 1], [[], [2], [1], [1, 1]])

    def test_looks(self):
        remaining, demands = [None, 1, None, 1], [1, 1, 1, 1]
        for looks in ([[], [0], [1], [1, 1]], [[], [1], [0], [1, 1]], [[], [1], [1], [0, 1]], [[], [1], [1], [1, 0]]):
            self.assert_not_right(self.flow, remaining, demands, looks)
        self.assert_right(self.flow, remaining, demands, [[], [2], [1], [1, 1]])
        self.assert_not_right(self.flow, remaining, demands, [[], [3], [1], [1, 1]])
        self.assert_right(self.flow, remaining, [2, 1, 1, 1], [[], [3], [1], [1, 1]])
        self.assert_not_right(self.flow, remaining, [9, 1, 1, 1], [[], [None], [1], [1, 1]])
        self.assert_right(self.flow, remaining, [None, 1, 1, 1], [[], [None], [1], [1, 1]])

    def test_the_demand_is_never_greater_than_the_remaining_output_in_the_paper(self):
        self.assert_right(self.flow, [None, 1, None, 1], [1, 1, 1, 1], [[], [1], [1], [None, 1]])
        self.assert_not_right(self.flow, [None, 1, None, 1], [1, 1, 1, 1], [[], [1], [1], [1, None]])

    def test_a_look_of_0_demands_nothing(self):
        flow = flow_of("source, drop 5 0, take 0 1", [2, 0], [[1]])
        self.assert_right(flow, [None, None, 0], [None, 0, 0], [[], [0], [0]])
        flow.close(1)
        self.assert_right(flow, [None, None, 0], [0, 0, 0], [[], [0], [0]])
        self.assert_not_right(flow, [None, None, 0], [0, 0, 0], [[], [1], [0]])
        self.assert_right(flow, [None, None, 0], [6, 0, 0], [[], [1], [0]])
        self.assert_right(flow, [None, None, 0], [6, 1, 0], [[], [1], [0]])
        self.assert_not_right(flow, [None, None, 0], [6, 2, 0], [[], [1], [0]])

    def test_a_window_and_a_filter(self):
        flow = flow_of("source, take 9 0, filter 1, window 3 2, take 2 3", [4], [[1]], [(1, 0, 0)])
        own = [None, 9, 9, 7, 2], [9, 9, 4, 2, 2], [[], [9], [9], [4], [2]]
        self.assert_right(flow, *own)
        self.assert_not_right(flow, own[0], own[1], [[], [9], [9], [3], [2]])
        self.assert_not_right(flow, own[0], own[1], [[], [9], [8], [4], [2]])
        self.assert_not_right(flow, own[0], [9, 8, 4, 2, 2], own[2])
        self.assert_right(flow, own[0], [9, 9, 5, 3, 2], [[], [9], [9], [5], [2]])
        self.assert_not_right(flow, own[0], [9, 9, 4, 3, 2], own[2])

    def test_ended_sources_and_whiles(self):
        flow = flow_of("source, while 0, source", [1, 2, 0], [[3], []], [(1, 0, 0)])
        self.assertIsNone(flow.pull(0))
        self.assertIsNone(flow.pull(1))
        self.assert_right(flow, [None, 0, 0], [None, 0, 0], [[], [0], []])
        self.assert_right(flow, [None, 5, 7], [None, 3, 7], [[], [3], []])
        self.assertTrue(denies_source(flow, Paper([None, 5, 7], [None, 3, 7], [[], [3], []]), 2))


class DeniesTest(PaperCase):
    def test_rows_that_are_not_produced(self):
        flow = flow_of("source, take 1 0", [1], [[1, 2]])
        flow.pull(0)
        paper = paper_of(flow)
        self.assertTrue(denies_row(flow, paper, 0, 0))
        for node, index in ((0, 1), (0, -1), (1, 1), (2, 0), (-1, 0), (-2, 0), (99, 0)):
            self.assertIs(denies_row(flow, paper, node, index), False)

    def test_nodes_that_are_no_sources(self):
        flow = flow_of("source, take 0 0", [1], [[1, 2]])
        paper = paper_of(flow)
        self.assertIs(denies_source(flow, paper, 0), True)
        for node in (1, 2, -1, 99):
            self.assertIs(denies_source(flow, paper, node), False)

    def test_a_source_that_is_open_idle_closed_and_ended(self):
        flow = flow_of("source, take 1 0, source", [1, 2], [[1, 2], []])
        self.assertIs(denies_source(flow, paper_of(flow), 0), False)
        flow.step(0)
        self.assertIs(denies_source(flow, paper_of(flow), 0), True)
        high = Paper([None, 1, None], [4, 1, None], [[], [1], []])
        self.assertTrue(is_right(flow, high))
        self.assertIs(denies_source(flow, high, 0), False)
        pulled(flow, 0)
        flow.pull(1)
        self.assertEqual([state for _, _, state in flow.sources()], ["closed", "ended"])
        high = Paper([None, 0, 1], [4, 0, 1], [[], [0], []])
        self.assertTrue(is_right(flow, high))
        self.assertIs(denies_source(flow, high, 0), True)
        self.assertIs(denies_source(flow, high, 2), True)

    def test_a_reader_keeps_whatever_a_paper_says(self):
        flow = flow_of("source, take 2 0", [1, 1], [[1, 2]])
        pulled(flow, 0, 2)
        paper = paper_of(flow)
        self.assertIs(denies_row(flow, paper, 1, 0), False)
        self.assertIs(denies_row(flow, paper, 0, 0), True)
        flow.close(1)
        self.assertIs(denies_row(flow, paper_of(flow), 1, 0), True)

    def test_the_own_last_row_of_a_scan(self):
        flow = flow_of("source, scan 0 0, take 2 1", [2], [[1, 2, 3]], [(1, 1, 0)])
        flow.pull(0)
        self.assertIs(denies_row(flow, paper_of(flow), 1, 0), False)
        flow.pull(0)
        self.assertIs(denies_row(flow, paper_of(flow), 1, 0), True)
        self.assertIs(denies_row(flow, paper_of(flow), 1, 1), True)
        high = Paper([None, None, 0], [1, 1, 0], [[], [1], [0]])
        self.assertTrue(is_right(flow, high))
        self.assertIs(denies_row(flow, high, 1, 1), False)
        self.assertIs(denies_row(flow, high, 1, 0), True)

    def test_a_look_that_is_read_from_the_paper(self):
        flow = flow_of("source, take 2 0", [1, 0], [[1, 2, 3, 4]])
        pulled(flow, 1, 4)
        flow.close(1)
        self.assertEqual(flow.kept(), [[0, 1], []])
        high = Paper([None, 2], [0, 2], [[], [3]])
        self.assertTrue(is_right(flow, high))
        self.assertEqual([denies_row(flow, high, 0, index) for index in range(4)], [False, False, False, True])
        unlimited = Paper([None, 2], [None, 2], [[], [None]])
        self.assertEqual([denies_row(flow, unlimited, 0, index) for index in range(4)], [False] * 4)


class FormTest(PaperCase):
    def setUp(self):
        self.flow = flow_of("source, take 2 0, zip 0 1", [2], [[1, 2, 3]])
        steps_of(self.flow, 0, 1)

    def test_the_right_form(self):
        self.assert_right(self.flow, [None, 2, 2], [1, 2, 2], [[], [2], [2, 2]])

    def test_too_few_or_too_many_bounds(self):
        remaining, demands, looks = [None, 2, 2], [1, 2, 2], [[], [2], [2, 2]]
        for wrong in ([], [None, 2], [None, 2, 2, 2]):
            self.assert_not_right(self.flow, wrong, demands, looks)
        for wrong in ([], [1, 2], [1, 2, 2, 2]):
            self.assert_not_right(self.flow, remaining, wrong, looks)
        for wrong in ([], [[], [2]], [[], [2], [2, 2], []], [[2], [2], [2, 2]], [[], [], [2, 2]],
                      [[], [2, 2], [2, 2]], [[], [2], [2]], [[], [2], [2, 2, 2]], [2, 2, 2], [None, [2], [2, 2]]):
            self.assert_not_right(self.flow, remaining, demands, wrong)

    def test_no_lists(self):
        remaining, demands, looks = [None, 2, 2], [1, 2, 2], [[], [2], [2, 2]]
        for wrong in (None, 0, (None, 2, 2)):
            self.assert_not_right(self.flow, wrong, demands, looks)
            self.assert_not_right(self.flow, remaining, wrong, looks)
            self.assert_not_right(self.flow, remaining, demands, wrong)

    def test_bounds_that_are_none(self):
        for wrong in (-1, True, "9", 9.0):
            self.assert_not_right(self.flow, [None, wrong, 2], [1, 2, 2], [[], [2], [2, 2]])
            self.assert_not_right(self.flow, [None, 2, 2], [wrong, 2, 2], [[], [2], [2, 2]])
            self.assert_not_right(self.flow, [None, 2, 2], [1, 2, 2], [[], [wrong], [2, 2]])


if __name__ == "__main__":
    unittest.main()
