"""Needs and pairs: that there are some exactly where the document says, and what the checks tell."""

import random
import unittest

from drawn import KINDS, drawn_flow, drawn_future, walk
from flowing import FlowCase, all_told, flow_of, pulled, steps_of
from leastpull.futures import Future, carry_out
from leastpull.graphs import source_nodes
from leastpull.needs import (
    is_need_of_row, is_need_of_source, is_pair_for_read, need_of_row, need_of_source, pair_for_read,
)

NOWHERE = (-1, -2, 12, 99)


class NeedCase(FlowCase):
    def assert_needs_of_rows(self, flow, context=None):
        kept = flow.kept()
        for node, rows in enumerate(flow.produced()):
            for index in range(len(rows)):
                future = need_of_row(flow, node, index)
                if index not in kept[node]:
                    self.assertIsNone(future, (context, node, index))
                    continue
                self.assertIsInstance(future, Future, (context, node, index))
                self.assertIn((node, index), carry_out(flow, future).accessed, context)
                self.assertTrue(is_need_of_row(flow, node, index, future))
            self.assertIsNone(need_of_row(flow, node, len(rows)))
            self.assertIsNone(need_of_row(flow, node, -1))

    def assert_needs_of_sources(self, flow, context=None):
        states = dict((node, state) for node, _, state in flow.sources())
        for node in range(len(flow.graph.nodes)):
            future = need_of_source(flow, node)
            if states.get(node) != "open":
                self.assertIsNone(future, (context, node))
                continue
            self.assertIsInstance(future, Future, (context, node))
            self.assertIn(node, carry_out(flow, future).reads, context)
            self.assertTrue(is_need_of_source(flow, node, future))

    def assert_pairs(self, flow, context=None):
        for reader in range(len(flow.readers())):
            step = flow.next_step(reader)
            pair = pair_for_read(flow, reader)
            if step[0] != "read":
                self.assertIsNone(pair, (context, reader))
                continue
            self.assertIsInstance(pair, tuple)
            one, two = pair
            self.assertEqual((one.pulls, two.pulls), ([reader], [reader]))
            self.assertEqual(one.tapes, two.tapes)
            for node, further, other in zip(source_nodes(flow.graph), one.further, two.further):
                if node != step[1]:
                    self.assertEqual(further, other)
            self.assertNotEqual(carry_out(flow, one).results, carry_out(flow, two).results, (context, reader))
            self.assertTrue(is_pair_for_read(flow, reader, one, two))

    def assert_all(self, flow, context=None):
        told = all_told(flow)
        self.assert_needs_of_rows(flow, context)
        self.assert_needs_of_sources(flow, context)
        self.assert_pairs(flow, context)
        self.assertEqual(all_told(flow), told)


class DrawnTest(NeedCase):
    def test_behind_every_step(self):
        kinds = set()
        for seed in range(250):
            rng = random.Random(seed)
            flow = drawn_flow(rng)
            kinds.update(node[0] for node in flow.graph.nodes)
            for _ in walk(rng, flow, 30):
                self.assert_all(flow, seed)
        self.assertEqual(kinds, set(KINDS))

    def test_no_future_needs_what_is_not_kept_or_not_open(self):
        for seed in range(400):
            rng = random.Random(seed)
            flow = drawn_flow(rng, most_nodes=rng.choice((4, 8, 12)))
            for _ in walk(rng, flow, 20):
                kept = flow.kept()
                produced = flow.produced()
                open_sources = [node for node, _, state in flow.sources() if state == "open"]
                outcome = carry_out(flow, drawn_future(rng, flow))
                for node, index in outcome.accessed:
                    self.assertTrue(index >= len(produced[node]) or index in kept[node], (seed, node, index))
                for node in outcome.reads:
                    self.assertIn(node, open_sources, seed)

    def test_each_read_of_a_pull_has_a_pair(self):
        for seed in range(150):
            flow = drawn_flow(random.Random(seed))
            for reader in range(len(flow.readers())):
                for _ in range(3):
                    while flow.next_step(reader)[0] in ("fire", "read"):
                        self.assert_pairs(flow, seed)
                        flow.step(reader)
                    flow.pull(reader)


class KindsTest(NeedCase):
    """Every kind of node as the one that keeps rows, with all that stands between it and the reader."""

    def assert_all_the_way(self, text, nodes, values, rules=()):
        flow = flow_of(text, nodes, values, rules)
        for reader in range(len(nodes) - 1, -1, -1):
            while flow.readers()[reader][2]:
                self.assert_all(flow, text)
                if flow.step(reader)[0] in ("ready", "exhausted"):
                    flow.pull(reader)
        self.assert_all(flow, text)

    def test_over_what_another_reader_has_produced(self):
        values = [1, 3, 2, 5, 6, 4]
        for node in ("map 0", "filter 0", "while 0", "scan 4 0"):
            self.assert_all_the_way(f"source, {node}", [1, 0], [values], [(1, 0, 0)])
        for node in ("take 3 0", "drop 2 0", "window 3 0", "zip 0 0"):
            self.assert_all_the_way(f"source, {node}", [1, 0], [values])
        for node in ("zip 0 1", "zip 1 0"):
            self.assert_all_the_way(f"source, source, {node}", [2, 1, 0], [values, values[:3]])
        for node in ("merge 0 1", "merge 1 0"):
            self.assert_all_the_way(f"source, source, {node}", [2, 1, 0], [values, values[:3]], [(1, 1, 0)])
        self.assert_all_the_way("source, merge 0 0", [1, 0], [values], [(1, 1, 0)])

    def test_a_source_that_several_nodes_lead_to(self):
        text = "source, drop 1 0, map 0, filter 1, zip 2 3, window 2 0, merge 4 5, take 5 6"
        self.assert_all_the_way(text, [7, 0], [[1, 2, 3, 4, 5, 6, 7]], [(1, 0, 0), (1, 0, 0), (1, 1, 0)])


class FilterTest(NeedCase):
    def needed(self, text, node, index, rules):
        """The need of a row that another reader has produced, and the answers of the filter there."""
        flow = flow_of(text, [len(text.split(",")) - 1, node], [[1, 1, 1, 1, 1, 1]], rules)
        pulled(flow, 1)
        self.assertIn(index, flow.kept()[node])
        self.assert_all(flow)
        return flow, need_of_row(flow, node, index)

    def test_a_filter_that_has_to_refuse(self):
        flow, future = self.needed("source, take 5 0, filter 1, take 1 2", 1, 4, [(1, 0, 0)])
        (marks, _), = future.tapes
        self.assertEqual(marks[:4], [False] * 4)
        always = Future(future.further, [([], True)], [0] * 9)
        self.assertFalse(is_need_of_row(flow, 1, 4, always))

    def test_a_filter_that_must_not_refuse(self):
        text = "source, take 5 0, filter 1, drop 3 2, zip 2 3"
        flow, future = self.needed(text, 1, 4, [(1, 0, 0)])
        self.assertEqual(flow.remaining()[2], flow.demands()[2])
        never = Future(future.further, [([], False)], [0] * 9)
        self.assertFalse(is_need_of_row(flow, 1, 4, never))

    def test_a_filter_that_may_refuse_just_once(self):
        text = "source, take 5 0, filter 1, take 1 2, drop 3 2, zip 3 4"
        flow, future = self.needed(text, 1, 4, [(1, 0, 0)])
        self.assertEqual((flow.remaining()[2], flow.demands()[2]), (5, 4))
        for marks in ([], [False, False]):
            wrong = Future(future.further, [(marks, True)], [0] * 9)
            self.assertFalse(is_need_of_row(flow, 1, 4, wrong))

    def test_two_filters_on_the_way(self):
        text = "source, take 6 0, filter 1, take 4 2, filter 3, take 1 4, drop 2 4, zip 5 6"
        self.needed(text, 1, 5, [(1, 0, 0), (1, 0, 0)])

    def test_a_filter_that_lags_behind_what_has_to_be_read_still(self):
        text = "source, source, zip 0 1, filter 2"
        flow = flow_of(text, [3, 2, 0], [[1, 2, 3, 4], [1, 2, 3, 4]], [(1, 0, 0)])
        pulled(flow, 1, 3)
        flow.close(1)
        pulled(flow, 2, 4)
        flow.close(2)
        self.assertEqual(flow.positions()[2:], [[3, 3], [0]])
        self.assertEqual(flow.kept()[0], [3])
        self.assert_all(flow)

    def test_an_unlimited_filter(self):
        flow, _ = self.needed("source, filter 0, drop 3 1, zip 1 2", 0, 5, [(1, 0, 0)])
        flow = flow_of("source, filter 0, drop 3 1, zip 1 2", [3, 0], [[1] * 40], [(1, 0, 0)])
        pulled(flow, 1, 40)
        self.assert_all(flow)


class PairTest(NeedCase):
    def assert_pair(self, flow, reader, source):
        self.assertEqual(flow.next_step(reader), ("read", source))
        self.assert_all(flow)

    def test_what_is_read_is_in_the_row(self):
        flow = flow_of("source", [0], [[]])
        self.assert_pair(flow, 0, 0)
        one, two = pair_for_read(flow, 0)
        self.assertNotEqual(one.further, two.further)

    def test_what_is_read_is_skipped(self):
        self.assert_pair(flow_of("source, drop 3 0", [1], [[5, 6]]), 0, 0)
        self.assert_pair(flow_of("source, map 0, drop 3 1, window 2 2", [3], [[5]], [(1, 0, 0)]), 0, 0)

    def test_a_merge_that_has_to_take_the_other_input_first(self):
        text = "source, take 1 0, source, merge 1 2, drop 2 3"
        flow = flow_of(text, [4], [[5], [6, 7, 8]], [(0, 0, 0)])
        self.assert_pair(flow, 0, 0)
        one, two = pair_for_read(flow, 0)
        tapes = [([], True)]
        self.assertFalse(is_pair_for_read(
            flow, 0, Future(one.further, tapes, [0]), Future(two.further, tapes, [0]),
        ))

    def test_a_merge_with_the_short_input_second(self):
        text = "source, take 1 0, source, take 2 2, merge 3 1, drop 2 4"
        flow = flow_of(text, [5], [[5], [6, 7, 8]], [(0, 0, 0)])
        self.assert_pair(flow, 0, 2)
        flow.step(0)
        flow.step(0)
        self.assert_pair(flow, 0, 0)

    def test_a_short_input_behind_rows_that_were_produced_before(self):
        text = "source, take 2 0, source, merge 1 2, map 3"
        flow = flow_of(text, [4], [[5, 6], [7, 8]], [(0, 0, 0), (1, 0, 0)])
        self.assertEqual(pulled(flow, 0, 1), [[5]])
        self.assert_pair(flow, 0, 0)

    def test_merges_over_merges(self):
        text = "source, take 1 0, source, take 1 2, source, take 1 4, merge 1 3, merge 6 5, drop 2 7"
        flow = flow_of(text, [8], [[5], [6], [7]], [(0, 0, 0), (0, 0, 0)])
        for _ in range(8):
            self.assert_all(flow)
            flow.step(0)

    def test_a_merge_of_the_same_node(self):
        flow = flow_of("source, take 1 0, merge 1 1, drop 1 2", [3], [[5]], [(0, 0, 0)])
        self.assert_pair(flow, 0, 0)

    def test_in_the_middle_of_a_pull(self):
        text = "source, source, zip 0 1, window 2 2, filter 3"
        flow = flow_of(text, [4, 2], [[1, 2, 3], [4, 5, 6]], [(1, 0, 0)])
        for _ in range(30):
            self.assert_all(flow)
            flow.step(0)
        for _ in range(3):
            flow.fork(0)
            flow.pull(1)
            flow.close(0)
            self.assert_all(flow)

    def test_with_sources_that_are_closed_or_have_ended(self):
        text = "source, source, merge 0 1, take 2 0, zip 2 3, source, merge 4 4"
        flow = flow_of(text, [6, 3, 1], [[1, 2], [], [9]], [(1, 1, 0), (1, 1, 0)])
        pulled(flow, 2)
        self.assertEqual([state for _, _, state in flow.sources()], ["open", "ended", "closed"])
        for _ in range(30):
            self.assert_all(flow)
            if flow.step(0)[0] == "ready":
                flow.pull(0)


class LongTest(NeedCase):
    """Needs stay within 2000 further values and 2000 pulls in the largest flows."""

    def test_a_reader_that_lags_far_behind(self):
        text = "source, source, merge 0 1, map 2, window 12 3, map 4, filter 5, drop 20 6, scan 1 7, window 3 8"
        values = [list(range(200)), list(range(200))]
        rules = [(1, 1, 0), (1, 0, 0), (1, 0, 0), (0, 0, 0), (1, 1, 0)]
        for node, index in ((0, 199), (1, 199), (2, 399), (3, 399), (4, 388), (5, 388)):
            flow = flow_of(text, [9, node], values, rules)
            pulled(flow, 1, 400)
            flow.close(1)
            self.assertIn(index, flow.kept()[node])
            self.assertTrue(is_need_of_row(flow, node, index, need_of_row(flow, node, index)))
            self.assert_needs_of_sources(flow)
            self.assert_pairs(flow)

    def test_what_is_far_ahead(self):
        text = "source, drop 20 0, map 1, drop 20 2, map 3, drop 20 4, window 12 5, map 6, window 12 7, map 8, zip 0 9"
        flow = flow_of(text, [10], [[]], [(1, 0, 0)] * 4)
        self.assert_all(flow)
        flow.step(0)
        self.assert_all(flow)


class NoneTest(NeedCase):
    def test_indexes_that_are_not_produced(self):
        flow = flow_of("source, map 0", [1], [[5, 6]], [(1, 0, 0)])
        flow.pull(0)
        for node in (0, 1):
            for index in (1, 2, 99, -1, -2):
                self.assertIsNone(need_of_row(flow, node, index))
        for node in NOWHERE:
            for index in (0, 1, -1):
                self.assertIsNone(need_of_row(flow, node, index))

    def test_nodes_that_are_no_open_sources(self):
        flow = flow_of("source, map 0, source", [1], [[5], [6]], [(1, 0, 0)])
        self.assertIsNotNone(need_of_source(flow, 0))
        for node in (1, 2) + NOWHERE:
            self.assertIsNone(need_of_source(flow, node))

    def test_an_idle_source(self):
        flow = flow_of("source, take 1 0", [1], [[5]])
        flow.step(0)
        self.assertEqual(flow.sources(), [(0, 1, "idle")])
        self.assertIsNone(need_of_source(flow, 0))

    def test_readers_whose_next_step_is_no_read(self):
        flow = flow_of("source, map 0, take 0 0", [1, 2, 1], [[5, 6]], [(1, 0, 0)])
        flow.close(2)
        self.assertIsNone(pair_for_read(flow, 1))
        self.assertIsNone(pair_for_read(flow, 2))
        self.assertIsNotNone(pair_for_read(flow, 0))
        flow.step(0)
        self.assertIsNone(pair_for_read(flow, 0))
        flow.step(0)
        self.assertIsNone(pair_for_read(flow, 0))
        for reader in (3, 12, -1):
            self.assertIsNone(pair_for_read(flow, reader))


class ChecksTest(NeedCase):
    def setUp(self):
        """Behind this step reader 0 reads source 1, and row 0 of source 0 is kept."""
        text = "source, source, zip 0 1, filter 2, map 3"
        self.flow = flow_of(text, [4, 0], [[1, 2], [3, 4]], [(1, 0, 0), (1, 0, 0)])
        self.flow.step(0)
        self.assertEqual(self.flow.next_step(0), ("read", 1))
        self.tapes = [([], True), ([], 0)]

    def future(self, **parts):
        told = {"further": [[], [7]], "tapes": self.tapes, "pulls": [0]}
        told.update(parts)
        return Future(**told)

    def test_a_need_of_a_row(self):
        self.assertTrue(is_need_of_row(self.flow, 0, 0, self.future()))
        self.assertTrue(is_need_of_row(self.flow, 0, 0, self.future(pulls=[1])))
        self.assertFalse(is_need_of_row(self.flow, 0, 0, self.future(pulls=[])))
        self.assertFalse(is_need_of_row(self.flow, 0, 0, self.future(further=[[], []])))

    def test_a_row_that_is_accessed_but_not_produced_yet(self):
        future = self.future(further=[[5], [7]], pulls=[0, 1, 1])
        accessed = carry_out(self.flow, future).accessed
        for node, index in ((1, 0), (2, 0), (3, 0), (4, 0), (0, 1)):
            self.assertIn((node, index), accessed)
            self.assertFalse(is_need_of_row(self.flow, node, index, future))
        self.assertTrue(is_need_of_row(self.flow, 0, 0, future))

    def test_rows_that_are_none(self):
        for node in NOWHERE:
            self.assertFalse(is_need_of_row(self.flow, node, 0, self.future()))
        for index in (-1, 1, 99):
            self.assertFalse(is_need_of_row(self.flow, 0, index, self.future()))

    def test_a_need_of_a_source(self):
        self.assertTrue(is_need_of_source(self.flow, 1, self.future()))
        self.assertTrue(is_need_of_source(self.flow, 1, self.future(further=[[], []])))
        self.assertFalse(is_need_of_source(self.flow, 0, self.future()))
        self.assertTrue(is_need_of_source(self.flow, 0, self.future(pulls=[1, 1])))
        self.assertFalse(is_need_of_source(self.flow, 1, self.future(pulls=[])))
        for node in (2, 3, 4) + NOWHERE:
            self.assertFalse(is_need_of_source(self.flow, node, self.future(pulls=[0, 0])))

    def test_a_pair(self):
        one, two = self.future(), self.future(further=[[], [8]])
        self.assertTrue(is_pair_for_read(self.flow, 0, one, two))
        self.assertTrue(is_pair_for_read(self.flow, 0, two, one))
        self.assertTrue(is_pair_for_read(self.flow, 0, one, self.future(further=[[], []])))
        self.assertTrue(is_pair_for_read(self.flow, 0, self.future(further=[[], [8, 9]]), one))

    def test_no_pair_with_the_same_result(self):
        self.assertFalse(is_pair_for_read(self.flow, 0, self.future(), self.future()))
        self.assertFalse(is_pair_for_read(self.flow, 0, self.future(), self.future(further=[[], [7, 8]])))
        never = [([], False), ([], 0)]
        one, two = self.future(tapes=never), self.future(tapes=never, further=[[], [8]])
        self.assertFalse(is_pair_for_read(self.flow, 0, one, two))

    def test_no_pair_with_other_pulls(self):
        for pulls in ([], [1], [0, 0], [0, 1]):
            one, two = self.future(pulls=pulls), self.future(pulls=pulls, further=[[], [8]])
            self.assertFalse(is_pair_for_read(self.flow, 0, one, two))
            self.assertFalse(is_pair_for_read(self.flow, 0, self.future(), two))
            self.assertFalse(is_pair_for_read(self.flow, 0, two, self.future()))

    def test_no_pair_with_other_tapes(self):
        for tapes in ([([True], True), ([], 0)], [([], True), ([], 1)], [([], True), ([0], 0)]):
            two = self.future(tapes=tapes, further=[[], [8]])
            self.assertFalse(is_pair_for_read(self.flow, 0, self.future(), two))
            self.assertTrue(is_pair_for_read(self.flow, 0, self.future(tapes=tapes), two))

    def test_no_pair_with_other_values_of_another_source(self):
        two = self.future(further=[[9], [8]])
        self.assertFalse(is_pair_for_read(self.flow, 0, self.future(), two))
        self.assertTrue(is_pair_for_read(self.flow, 0, self.future(further=[[9], [7]]), two))

    def test_no_pair_for_another_reader(self):
        one, two = self.future(), self.future(further=[[], [8]])
        for reader in (1, 2, 12, -1):
            self.assertFalse(is_pair_for_read(self.flow, reader, one, two))

    def test_no_pair_when_the_next_step_is_no_read(self):
        one, two = self.future(further=[[5], [7]]), self.future(further=[[5], [8]])
        self.flow.step(0)
        self.assertEqual(self.flow.next_step(0), ("fire", 2))
        self.assertFalse(is_pair_for_read(self.flow, 0, one, two))

    def test_futures_that_cannot_be_carried_out(self):
        right = self.future(further=[[], [8]])
        wrong = [
            self.future(further=[[]]),
            self.future(further=[[], [7], []]),
            self.future(further=[]),
            self.future(further=[[], [True]]),
            self.future(further=[[], [7] * 2001]),
            self.future(tapes=[]),
            self.future(tapes=self.tapes[:1]),
            self.future(tapes=self.tapes + [([], 0)]),
            self.future(tapes=[([], 1), ([], 0)]),
            self.future(tapes=[([], True), ([], True)]),
            self.future(tapes=[([0], True), ([], 0)]),
            self.future(tapes=[None, ([], 0)]),
            self.future(pulls=[2]),
            self.future(pulls=[-1]),
            self.future(pulls=[0] * 2001),
        ]
        told = all_told(self.flow)
        for future in wrong:
            self.assertIs(is_need_of_row(self.flow, 0, 0, future), False)
            self.assertIs(is_need_of_source(self.flow, 1, future), False)
            self.assertIs(is_pair_for_read(self.flow, 0, future, right), False)
            self.assertIs(is_pair_for_read(self.flow, 0, right, future), False)
        self.assertEqual(all_told(self.flow), told)

    def test_they_tell_bools(self):
        one, two = self.future(), self.future(further=[[], [8]])
        self.assertIs(is_need_of_row(self.flow, 0, 0, one), True)
        self.assertIs(is_need_of_source(self.flow, 1, one), True)
        self.assertIs(is_pair_for_read(self.flow, 0, one, two), True)


if __name__ == "__main__":
    unittest.main()
