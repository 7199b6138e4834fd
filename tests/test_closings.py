"""Closings: when sources are closed, and in what order."""

import random
import unittest

from drawn import drawn_flow, walk
from flowing import FlowCase, flow_of, pulled, steps_of


class MadeTest(FlowCase):
    def test_sources_that_nobody_can_need_are_closed_at_once(self):
        flow = flow_of("source, source, map 0, source, take 0 3", [2, 4], [[1], [2], [3]], [(1, 0, 0)])
        self.assertEqual(flow.events(), [("close", 1), ("close", 3)])
        self.assertEqual(flow.sources(), [(0, 0, "open"), (1, 0, "closed"), (3, 0, "closed")])

    def test_nothing_is_read(self):
        flow = flow_of("source, source, zip 0 1", [2], [[1], []])
        self.assertEqual(flow.events(), [])
        self.assertEqual(flow.produced(), [[], [], []])

    def test_an_empty_source_is_open_until_it_is_read(self):
        flow = flow_of("source", [0], [[]])
        self.assertEqual(flow.sources(), [(0, 0, "open")])
        self.assertIsNone(flow.pull(0))
        self.assertEqual(flow.sources(), [(0, 1, "ended")])


class ClosingTest(FlowCase):
    def test_as_soon_as_the_demand_is_0(self):
        flow = flow_of("source, take 2 0", [1], [[1, 2, 3]])
        flow.pull(0)
        self.assertEqual(flow.events(), [("read", 0)])
        flow.pull(0)
        self.assertEqual(flow.events(), [("read", 0), ("read", 0), ("close", 0)])

    def test_in_the_order_of_the_nodes(self):
        text = "source, source, source, zip 2 0, zip 3 1"
        flow = flow_of(text, [4], [[1], [2], [3]])
        flow.close(0)
        self.assertEqual(flow.events(), [("close", 0), ("close", 1), ("close", 2)])

    def test_once(self):
        flow = flow_of("source, source", [0, 1, 1], [[1], [2]])
        flow.close(0)
        flow.close(1)
        flow.pull(2)
        flow.close(2)
        self.assertEqual(flow.events(), [("close", 0), ("read", 1), ("close", 1)])

    def test_never_one_that_has_ended(self):
        flow = flow_of("source, source, zip 0 1", [2, 0], [[1], [2, 3]])
        pulled(flow, 0)
        self.assertEqual(flow.sources(), [(0, 2, "ended"), (1, 1, "closed")])
        flow.close(1)
        self.assertEqual(flow.events()[-2:], [("read", 0), ("close", 1)])

    def test_only_when_it_settles(self):
        flow = flow_of("source, take 1 0, map 1", [2], [[1, 2]], [(1, 0, 0)])
        steps_of(flow, 0, 1)
        self.assertEqual(flow.sources(), [(0, 1, "idle")])
        self.assertEqual(flow.demands()[0], 0)
        steps_of(flow, 0, 5)
        self.assertEqual(flow.sources(), [(0, 1, "idle")])
        self.assertEqual(flow.events(), [("read", 0)])
        flow.pull(0)
        self.assertEqual(flow.sources(), [(0, 1, "closed")])

    def test_a_pull_that_finds_its_row_produced_settles_too(self):
        flow = flow_of("source, take 1 0", [1, 1], [[1, 2]])
        steps_of(flow, 0, 2)
        self.assertEqual(flow.sources(), [(0, 1, "idle")])
        flow.pull(1)
        self.assertEqual(flow.sources(), [(0, 1, "closed")])

    def test_a_pull_that_gives_none_settles_too(self):
        flow = flow_of("source, source, zip 0 1", [2], [[], [1]])
        self.assertIsNone(flow.pull(0))
        self.assertEqual(flow.events(), [("read", 0), ("close", 1)])

    def test_a_source_stays_open_for_another_reader(self):
        flow = flow_of("source, take 1 0", [1, 0], [[1, 2]])
        flow.pull(0)
        self.assertEqual(flow.sources(), [(0, 1, "open")])
        self.assertEqual(flow.explain(0, None), ([], 1))
        flow.close(1)
        self.assertEqual(flow.sources(), [(0, 1, "closed")])

    def test_a_source_stays_open_for_an_exhausted_take_no_longer(self):
        flow = flow_of("source, take 1 0, take 3 0", [1, 2], [[1, 2, 3, 4]])
        flow.pull(0)
        self.assertEqual(flow.explain(0, None), ([2], 1))
        pulled(flow, 1, 3)
        self.assertEqual(flow.sources(), [(0, 3, "closed")])


class DrawnTest(FlowCase):
    def test_what_settles_and_what_does_not(self):
        for seed in range(200):
            rng = random.Random(seed)
            flow = drawn_flow(rng)
            known = []
            for _ in walk(rng, flow, 50):
                states = dict((node, state) for node, _, state in flow.sources())
                events = flow.events()
                self.assertEqual(events[:len(known)], known)
                new = [node for word, node in events[len(known):] if word == "close"]
                self.assertEqual(new, sorted(new))
                known = events
                for node, reads, state in flow.sources():
                    self.assertEqual(events.count(("read", node)), reads)
                    self.assertEqual(events.count(("close", node)), 1 if state == "closed" else 0)
                    if state == "closed":
                        self.assertGreater(events.index(("close", node)), last_read(events, node))
                demands = flow.demands()
                for node, state in states.items():
                    self.assertEqual(demands[node] == 0, state != "open")

    def test_what_is_not_open_is_never_open_again(self):
        for seed in range(200):
            rng = random.Random(seed)
            flow = drawn_flow(rng)
            gone = {}
            for _ in walk(rng, flow, 50):
                for node, _, state in flow.sources():
                    if node in gone:
                        self.assertIn(state, ("closed", gone[node]))
                    if state != "open":
                        gone[node] = state

    def test_what_is_not_kept_is_never_kept_again(self):
        for seed in range(200):
            rng = random.Random(seed)
            flow = drawn_flow(rng)
            gone = set()
            for _ in walk(rng, flow, 50):
                produced = flow.produced()
                for node, kept in enumerate(flow.kept()):
                    for index in range(len(produced[node])):
                        if index not in kept:
                            gone.add((node, index))
                        else:
                            self.assertNotIn((node, index), gone)

    def test_when_no_reader_is_active(self):
        for seed in range(200):
            rng = random.Random(seed)
            flow = drawn_flow(rng)
            for _ in walk(rng, flow, rng.randint(0, 40)):
                pass
            for reader in range(len(flow.readers())):
                flow.close(reader)
            self.assertEqual(flow.kept(), [[] for _ in flow.graph.nodes])
            self.assertTrue(all(state in ("closed", "ended") for _, _, state in flow.sources()))
            self.assertEqual(flow.demands(), [0 for _ in flow.graph.nodes])


def last_read(events, node):
    """The place of the last read of a source among the events; -1 if there is none."""
    return max((place for place, event in enumerate(events) if event == ("read", node)), default=-1)


if __name__ == "__main__":
    unittest.main()
