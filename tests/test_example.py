"""The example of the document, sentence by sentence."""

import unittest

from leastpull.flows import Flow
from leastpull.futures import Future, carry_out
from leastpull.graphs import Graph
from leastpull.needs import (
    is_need_of_row, is_need_of_source, is_pair_for_read, need_of_row, need_of_source, pair_for_read,
)
from leastpull.papers import Paper, denies_row, denies_source, is_right, paper_of
from samples import SOURCE

NODES = [SOURCE, ("take", 2, 0), ("drop", 1, 0), ("zip", 1, 2)]
FIRST_EVENTS = [("read", 0), ("read", 0)]


class ExampleTest(unittest.TestCase):
    def setUp(self):
        self.flow = Flow(Graph(NODES), [3], [[3, 1, 4, 1, 5]], [])

    def pull_once(self):
        self.assertEqual(self.flow.pull(0), [3, 1])

    def pull_and_fire(self):
        """Behind the first pull and the firing of node 1, the next step is to read."""
        self.pull_once()
        self.assertEqual(self.flow.step(0), ("fire", 1))

    def test_at_first(self):
        self.assertEqual(self.flow.remaining(), [None, 2, None, 2])
        self.assertEqual(self.flow.demands(), [3, 2, 2, 2])
        self.assertEqual(self.flow.looks(), [[], [2], [2], [2, 2]])
        self.assertEqual(self.flow.positions(), [[], [0], [1], [0, 0]])
        self.assertEqual(self.flow.readers(), [(3, 0, True)])
        self.assertEqual(self.flow.produced(), [[], [], [], []])
        self.assertEqual(self.flow.kept(), [[], [], [], []])
        self.assertEqual(self.flow.sources(), [(0, 0, "open")])
        self.assertEqual(self.flow.events(), [])
        self.assertEqual(self.flow.calls(), [])

    def test_the_steps_of_the_first_pull(self):
        steps = [self.flow.step(0) for _ in range(7)]
        self.assertEqual(steps, [
            ("read", 0), ("fire", 1), ("read", 0), ("fire", 2), ("fire", 3), ("ready",), ("ready",),
        ])
        self.assertEqual(self.flow.pull(0), [3, 1])

    def test_the_first_pull(self):
        self.pull_once()
        self.assertEqual(self.flow.events(), FIRST_EVENTS)
        self.assertEqual(self.flow.produced(), [[[3], [1]], [[3]], [[1]], [[3, 1]]])
        self.assertEqual(self.flow.positions(), [[], [1], [2], [1, 1]])
        self.assertEqual(self.flow.readers(), [(3, 1, True)])

    def test_what_is_kept(self):
        self.pull_once()
        self.assertEqual(self.flow.kept(), [[1], [], [], []])

    def test_the_explanations(self):
        self.pull_once()
        self.assertEqual(self.flow.explain(0, 1), ([1, 3], 0))
        self.assertEqual(self.flow.explain(0, None), ([2, 3], 0))
        self.assertIsNone(self.flow.explain(0, 0))
        self.assertIsNone(self.flow.explain(0, 2))
        self.assertIsNone(self.flow.explain(1, None))

    def test_the_need(self):
        self.pull_once()
        future = Future([[]], [], [0])
        self.assertTrue(is_need_of_row(self.flow, 0, 1, future))
        outcome = carry_out(self.flow, future)
        self.assertEqual(outcome.results, [None])
        self.assertEqual(outcome.accessed, [(0, 1)])
        self.assertEqual(outcome.reads, [0])
        self.assertFalse(is_need_of_row(self.flow, 0, 0, future))
        self.assertTrue(is_need_of_source(self.flow, 0, future))
        self.assertTrue(is_need_of_row(self.flow, 0, 1, need_of_row(self.flow, 0, 1)))
        self.assertTrue(is_need_of_source(self.flow, 0, need_of_source(self.flow, 0)))
        self.assertIsNone(need_of_row(self.flow, 0, 0))

    def test_the_next_read_comes_behind_that_firing(self):
        self.pull_once()
        self.assertEqual(self.flow.next_step(0), ("fire", 1))
        self.assertIsNone(pair_for_read(self.flow, 0))
        self.flow.step(0)
        self.assertEqual(self.flow.next_step(0), ("read", 0))

    def test_the_pair(self):
        self.pull_and_fire()
        one, two = Future([[0]], [], [0]), Future([[1]], [], [0])
        self.assertTrue(is_pair_for_read(self.flow, 0, one, two))
        self.assertEqual(carry_out(self.flow, one).results, [[1, 0]])
        self.assertEqual(carry_out(self.flow, two).results, [[1, 1]])
        self.assertFalse(is_pair_for_read(self.flow, 0, one, one))
        self.assertTrue(is_pair_for_read(self.flow, 0, *pair_for_read(self.flow, 0)))

    def test_the_paper(self):
        self.pull_once()
        paper = paper_of(self.flow)
        self.assertEqual(paper.remaining, [None, 1, None, 1])
        self.assertEqual(paper.demands, [1, 1, 1, 1])
        self.assertEqual(paper.looks, [[], [1], [1], [1, 1]])
        written = Paper([None, 1, None, 1], [1, 1, 1, 1], [[], [1], [1], [1, 1]])
        for right in (paper, written):
            self.assertTrue(is_right(self.flow, right))
            self.assertTrue(denies_row(self.flow, right, 0, 0))
            self.assertFalse(denies_row(self.flow, right, 0, 1))
            self.assertFalse(denies_source(self.flow, right, 0))

    def test_the_second_pull_and_the_closing(self):
        self.pull_once()
        self.assertEqual(self.flow.pull(0), [1, 4])
        self.assertEqual(self.flow.events(), FIRST_EVENTS + [("read", 0), ("close", 0)])
        self.assertEqual(self.flow.demands(), [0, 0, 0, 0])
        self.assertEqual(self.flow.remaining(), [None, 0, None, 0])
        self.assertEqual(self.flow.sources(), [(0, 3, "closed")])
        self.assertEqual(self.flow.kept(), [[], [], [], []])
        self.assertEqual(self.flow.readers(), [(3, 2, True)])

    def test_the_third_pull_reads_nothing(self):
        self.pull_once()
        self.flow.pull(0)
        events = self.flow.events()
        self.assertEqual(self.flow.next_step(0), ("exhausted",))
        self.assertIsNone(self.flow.pull(0))
        self.assertEqual(self.flow.events(), events)
        self.assertEqual(self.flow.readers(), [(3, 2, False)])
        self.assertEqual(self.flow.next_step(0), ("idle",))


if __name__ == "__main__":
    unittest.main()
