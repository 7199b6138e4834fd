"""What a flow tells of itself against the tables of the document, reckoned over again."""

import random
import unittest

from drawn import KINDS, drawn_flow, walk
from flowing import FlowCase, flow_of, pulled, steps_of
from reference import Reference


class ReferenceTest(FlowCase):
    def assert_as_reckoned(self, flow, seed):
        reference = Reference(flow)
        remaining, demands, looks = reference.paper_parts()
        self.assertEqual(flow.remaining(), remaining, seed)
        self.assertEqual(flow.demands(), demands, seed)
        self.assertEqual(flow.looks(), looks, seed)
        self.assertEqual(flow.kept(), reference.kept(), seed)
        for node, _, state in flow.sources():
            self.assertEqual(state, reference.source_state(node, state), seed)
        for reader in range(len(flow.readers())):
            self.assertEqual(flow.next_step(reader), reference.step_for_reader(reader), seed)
        for node, rows in enumerate(flow.produced()):
            self.assertEqual(flow.explain(node, None), reference.explain_source(node), seed)
            for index in range(len(rows)):
                self.assertEqual(flow.explain(node, index), reference.explain_index(node, index), seed)

    def test_behind_every_step(self):
        kinds = set()
        for seed in range(300):
            rng = random.Random(seed)
            flow = drawn_flow(rng)
            kinds.update(node[0] for node in flow.graph.nodes)
            for _ in walk(rng, flow, 40):
                self.assert_as_reckoned(flow, seed)
        self.assertEqual(kinds, set(KINDS))

    def test_the_demand_bounds_what_is_produced(self):
        for seed in range(200):
            rng = random.Random(seed)
            flow = drawn_flow(rng)
            bounds = [None for _ in flow.graph.nodes]
            for _ in walk(rng, flow, 60):
                for node, rows in enumerate(flow.produced()):
                    demand = flow.demands()[node]
                    if bounds[node] is not None:
                        self.assertLessEqual(len(rows), bounds[node], seed)
                    if demand is not None and bounds[node] is None:
                        bounds[node] = len(rows) + demand
                    elif demand is not None:
                        bounds[node] = min(bounds[node], len(rows) + demand)


class DemandTest(FlowCase):
    def test_the_greatest_of_several_positions(self):
        flow = flow_of("source, take 2 0, take 5 0, drop 3 1", [1, 2, 3], [[1] * 9])
        self.assert_measures(flow, [None, 2, 5, 0], [5, 2, 5, 0], [[], [2], [5], [0]])
        pulled(flow, 1, 3)
        self.assert_measures(flow, [None, 2, 2, 0], [2, 2, 2, 0], [[], [2], [2], [0]])

    def test_what_is_produced_is_not_in_demand(self):
        flow = flow_of("source, take 2 0", [1, 0], [[1, 2, 3]])
        pulled(flow, 1, 3)
        flow.close(1)
        self.assert_measures(flow, [None, 2], [0, 2], [[], [2]])
        self.assertEqual(flow.kept(), [[0, 1], []])
        self.assertEqual(flow.sources(), [(0, 3, "closed")])

    def test_a_reader_demands_no_more_than_remains(self):
        flow = flow_of("source, take 2 0", [1], [[1, 2, 3]])
        self.assertEqual(flow.demands(), [2, 2])
        flow.close(0)
        self.assertEqual(flow.demands(), [0, 0])

    def test_remaining_is_unlimited_when_a_source_is_closed(self):
        flow = flow_of("source, map 0", [1], [[1, 2, 3]], [(1, 0, 0)])
        flow.close(0)
        self.assertEqual(flow.sources(), [(0, 0, "closed")])
        self.assert_measures(flow, [None, None], [0, 0], [[], [0]])

    def test_readers_that_are_not_active_demand_nothing(self):
        flow = flow_of("source, source", [0, 1], [[1], []])
        self.assertEqual(flow.demands(), [None, None])
        flow.close(0)
        self.assertEqual(flow.demands(), [0, None])
        flow.pull(1)
        self.assertEqual(flow.demands(), [0, 0])

    def test_in_the_middle_of_a_pull(self):
        flow = flow_of("source, window 2 0, take 1 1", [2], [[1, 2, 3]])
        self.assert_measures(flow, [None, None, 1], [2, 1, 1], [[], [2], [1]])
        steps_of(flow, 0, 1)
        self.assert_measures(flow, [None, None, 1], [1, 1, 1], [[], [2], [1]])
        steps_of(flow, 0, 1)
        self.assert_measures(flow, [None, None, 1], [0, 1, 1], [[], [2], [1]])
        self.assertEqual(flow.kept(), [[0, 1], [], []])
        steps_of(flow, 0, 1)
        self.assert_measures(flow, [None, None, 1], [0, 0, 1], [[], [0], [1]])
        self.assertEqual(flow.kept(), [[], [0], []])
        steps_of(flow, 0, 1)
        self.assert_measures(flow, [None, None, 0], [0, 0, 0], [[], [0], [0]])
        self.assertEqual(flow.kept(), [[], [], [0]])


class ExplainTest(FlowCase):
    def test_the_active_reader_with_the_least_number(self):
        flow = flow_of("source, map 0", [0, 0, 1], [[1, 2, 3]], [(1, 0, 0)])
        pulled(flow, 0, 2)
        flow.pull(1)
        self.assertEqual(flow.explain(0, 0), ([1], 2))
        self.assertEqual(flow.explain(0, 1), ([], 1))
        self.assertEqual(flow.explain(0, None), ([], 0))
        flow.close(0)
        self.assertEqual(flow.explain(0, None), ([], 1))
        flow.close(1)
        self.assertEqual(flow.explain(0, 1), ([1], 2))
        self.assertEqual(flow.explain(0, None), ([1], 2))

    def test_a_reader_goes_ahead_of_nodes(self):
        flow = flow_of("source, map 0", [1, 0], [[1, 2]], [(1, 0, 0)])
        pulled(flow, 1, 1)
        flow.fork(1)
        self.assertEqual(flow.explain(0, 0), ([1], 0))
        flow = flow_of("source, map 0", [1, 0, 0], [[1, 2]], [(1, 0, 0)])
        pulled(flow, 1, 1)
        self.assertEqual(flow.explain(0, 0), ([], 2))

    def test_the_node_with_the_least_number(self):
        flow = flow_of("source, map 0, map 0, zip 1 2", [3, 2, 0], [[1, 2]], [(1, 0, 0)] * 2)
        flow.pull(2)
        self.assertEqual(flow.explain(0, 0), ([1, 3], 0))
        flow.step(0)
        self.assertEqual(flow.explain(0, 0), ([2], 1))

    def test_a_scan_for_itself_and_for_others(self):
        flow = flow_of("source, scan 0 0, map 1, map 1", [3, 1], [[1, 2]], [(1, 1, 0)] * 3)
        flow.pull(1)
        self.assertEqual(flow.explain(1, 0), ([1], 1))
        flow.close(1)
        self.assertEqual(flow.explain(1, 0), ([1, 3], 0))
        flow.step(0)
        self.assertEqual(flow.explain(1, 0), ([1, 3], 0))

    def test_a_position_that_demands_no_more_than_is_produced_is_passed_over(self):
        text = "source, map 0, take 1 1, map 1, zip 2 2"
        flow = flow_of(text, [4, 3, 1], [[1, 2, 3]], [(1, 0, 0)] * 2)
        self.assertEqual(flow.explain(0, None), ([1], 2))
        flow.pull(2)
        flow.close(2)
        self.assertEqual(flow.explain(1, 0), ([2, 4], 0))
        self.assertEqual(flow.explain(0, None), ([1, 3], 1))

    def test_what_is_not_kept_or_not_open(self):
        flow = flow_of("source, map 0, source, take 1 2", [1, 3], [[1, 2], [3]], [(1, 0, 0)])
        flow.pull(0)
        self.assertIsNone(flow.explain(0, 0))
        self.assertIsNone(flow.explain(1, 0))
        for index in (1, 99, -1):
            self.assertIsNone(flow.explain(0, index))
        self.assertIsNone(flow.explain(1, None))
        flow.step(1)
        self.assertEqual(flow.sources()[1], (2, 1, "idle"))
        self.assertIsNone(flow.explain(2, None))
        self.assertEqual(flow.explain(2, 0), ([3], 1))
        flow.pull(1)
        self.assertEqual(flow.sources()[1], (2, 1, "closed"))
        self.assertIsNone(flow.explain(2, None))
        self.assertIsNone(flow.explain(2, 0))
        pulled(flow, 0)
        self.assertEqual(flow.sources()[0], (0, 3, "ended"))
        self.assertIsNone(flow.explain(0, None))


if __name__ == "__main__":
    unittest.main()
