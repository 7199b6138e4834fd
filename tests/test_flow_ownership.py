"""What is passed to flows and returned by them may change without any effect; copies go on alone."""

import copy
import random
import unittest

from drawn import drawn_flow, drawn_parts, walk
from flowing import FlowCase, all_told, flow_of, pulled, steps_of
from leastpull.flows import Flow
from leastpull.futures import Future, Outcome, carry_out
from leastpull.graphs import Graph
from leastpull.needs import is_need_of_row, is_pair_for_read, need_of_row, need_of_source, pair_for_read
from leastpull.papers import Paper, denies_row, denies_source, is_right, paper_of
from samples import SOURCE


def spoil(value):
    """Changes all lists within a value."""
    if isinstance(value, (list, tuple)):
        for part in list(value):
            spoil(part)
    if isinstance(value, list):
        value.append(["spoilt"])
        value.insert(0, 77)


class PassedTest(FlowCase):
    def test_nothing_that_is_passed_is_modified(self):
        for seed in range(50):
            graph, nodes, values, rules = drawn_parts(random.Random(seed))
            before = copy.deepcopy((graph.nodes, nodes, values, rules))
            flow = Flow(graph, nodes, values, rules)
            for reader in range(len(nodes)):
                pulled(flow, reader)
            all_told(flow)
            self.assertEqual((graph.nodes, nodes, values, rules), before)

    def test_later_changes_to_what_was_passed(self):
        nodes, values, rules = [1, 1], [[1, 2, 3], [4, 5]], [(1, 0, 0)]
        graph = Graph([SOURCE, ("map", 0), SOURCE])
        flow = Flow(graph, nodes, values, rules)
        flow.pull(0)
        told = all_told(flow)
        graph.nodes.append(SOURCE)
        graph.nodes[1] = ("drop", 1, 0)
        for passed in (nodes, values, rules):
            spoil(passed)
        self.assertEqual(all_told(flow), told)
        self.assertEqual(pulled(flow, 0), [[2], [3]])
        self.assertEqual(pulled(flow, 1), [[1], [2], [3]])

    def test_a_graph_carries_several_flows(self):
        graph = Graph([SOURCE, ("take", 2, 0)])
        one, two = Flow(graph, [1], [[1, 2, 3]], []), Flow(graph, [1], [[4, 5, 6]], [])
        self.assertIs(one.graph, graph)
        self.assertEqual(one.pull(0), [1])
        self.assertEqual(pulled(two, 0), [[4], [5]])
        self.assertEqual(one.pull(0), [2])

    def test_futures(self):
        flow = flow_of("source, filter 0", [1], [[]], [(0, 0, 0)])
        further, tapes, pulls = [[1, 2]], [([False], True)], [0, 0]
        future = Future(further, tapes, pulls)
        carry_out(flow, future)
        self.assertEqual((further, tapes, pulls), ([[1, 2]], [([False], True)], [0, 0]))
        for passed in (further, tapes, pulls):
            spoil(passed)
        self.assertEqual((future.further, future.tapes, future.pulls), ([[1, 2]], [([False], True)], [0, 0]))
        self.assertEqual(carry_out(flow, future).results, [[2], None])

    def test_outcomes(self):
        results, accessed, reads = [[1], None], [(0, 0)], [0]
        outcome = Outcome(results, accessed, reads)
        for passed in (results, accessed, reads):
            spoil(passed)
        self.assertEqual((outcome.results, outcome.accessed, outcome.reads), ([[1], None], [(0, 0)], [0]))

    def test_papers(self):
        remaining, demands, looks = [None, 2], [2, 2], [[], [2]]
        paper = Paper(remaining, demands, looks)
        for passed in (remaining, demands, looks):
            spoil(passed)
        self.assertEqual((paper.remaining, paper.demands, paper.looks), ([None, 2], [2, 2], [[], [2]]))
        self.assertTrue(is_right(flow_of("source, take 2 0", [1], [[]]), paper))

    def test_checks_modify_nothing(self):
        flow = flow_of("source, filter 0", [1, 0], [[1, 2]], [(1, 0, 0)])
        flow.pull(1)
        future = Future([[1, 2]], [([False], True)], [0, 0])
        is_need_of_row(flow, 0, 0, future)
        is_pair_for_read(flow, 0, future, future)
        self.assertEqual((future.further, future.tapes, future.pulls), ([[1, 2]], [([False], True)], [0, 0]))


class ReturnedTest(FlowCase):
    def test_all_that_a_flow_tells(self):
        for seed in range(50):
            rng = random.Random(seed)
            flow = drawn_flow(rng)
            for _ in walk(rng, flow, 15):
                told = all_told(flow)
                returned = all_told(flow)
                for value in returned:
                    spoil(value)
                self.assertEqual(all_told(flow), told)

    def test_what_is_told_are_new_lists(self):
        flow = flow_of("source, map 0", [1], [[1, 2]], [(1, 0, 0)])
        flow.pull(0)
        functions = (
            flow.readers, flow.produced, flow.kept, flow.positions, flow.sources, flow.events, flow.calls,
            flow.remaining, flow.demands, flow.looks,
        )
        for function in functions:
            self.assertIsInstance(function(), list)
            self.assertIsNot(function(), function())

    def test_rows_that_are_received(self):
        nodes = [
            SOURCE, ("filter", 0), ("while", 0), ("take", 9, 0), ("drop", 0, 0),
            ("window", 1, 0), ("scan", 0, 0), ("merge", 0, 0), ("zip", 0, 0), ("map", 0),
        ]
        for node in range(len(nodes)):
            flow = Flow(Graph(nodes), [node, node, 0], [[1, 2]], [(0, 0, 1)] * 5)
            rows = [row for row in pulled(flow, 0)]
            produced = flow.produced()
            spoil(rows)
            self.assertEqual(flow.produced(), produced)
            self.assertEqual(pulled(flow, 1), produced[node])
            self.assertEqual(pulled(flow, 2), [[1], [2]])

    def test_needs_and_pairs(self):
        flow = flow_of("source, take 2 0, filter 1", [2, 0], [[1, 2, 3]], [(1, 0, 0)])
        flow.pull(1)
        told = all_told(flow)
        one, two = pair_for_read(flow, 1)
        for future in (need_of_row(flow, 0, 0), need_of_source(flow, 0), one, two):
            for part in (future.further, future.tapes, future.pulls):
                spoil(part)
        self.assertEqual(all_told(flow), told)
        self.assertTrue(is_need_of_row(flow, 0, 0, need_of_row(flow, 0, 0)))
        self.assertTrue(is_pair_for_read(flow, 1, *pair_for_read(flow, 1)))

    def test_a_pair_shares_no_lists(self):
        flow = flow_of("source, source, filter 0, zip 2 1", [3], [[], []], [(1, 0, 0)])
        one, two = pair_for_read(flow, 0)
        before = repr((two.further, two.tapes, two.pulls))
        for part in (one.further, one.tapes, one.pulls):
            spoil(part)
        self.assertEqual(repr((two.further, two.tapes, two.pulls)), before)

    def test_an_outcome(self):
        flow = flow_of("source, take 2 0", [1, 0], [[1, 2, 3]])
        flow.pull(1)
        told = all_told(flow)
        future = Future([[5]], [], [0, 0])
        outcome = carry_out(flow, future)
        for part in (outcome.results, outcome.accessed, outcome.reads):
            spoil(part)
        self.assertEqual(all_told(flow), told)
        self.assertEqual(carry_out(flow, future).results, [[1], [5]])

    def test_a_paper(self):
        flow = flow_of("source, take 2 0", [1, 0], [[1, 2, 3]])
        told = all_told(flow)
        paper = paper_of(flow)
        for part in (paper.remaining, paper.demands, paper.looks):
            spoil(part)
        self.assertEqual(all_told(flow), told)
        self.assertEqual(paper_of(flow).demands, flow.demands())
        denies_row(flow, paper_of(flow), 0, 0)
        denies_source(flow, paper_of(flow), 0)
        self.assertEqual(all_told(flow), told)


class CopyTest(FlowCase):
    def test_a_copy_is_a_flow_that_tells_the_same(self):
        for seed in range(100):
            rng = random.Random(seed)
            flow = drawn_flow(rng)
            for _ in walk(rng, flow, 20):
                told = all_told(flow)
                made = flow.copy()
                self.assertIsInstance(made, Flow)
                self.assertIs(made.graph, flow.graph)
                self.assertEqual(all_told(made), told)
                self.assertEqual(all_told(flow), told)

    def test_both_go_on_alone(self):
        for seed in range(100):
            rng = random.Random(seed)
            flow = drawn_flow(rng)
            for _ in walk(rng, flow, rng.randint(0, 15)):
                pass
            made = flow.copy()
            told = all_told(flow)
            for _ in walk(random.Random(seed), made, 25):
                self.assertEqual(all_told(flow), told)
            gone_on = all_told(made)
            for _ in walk(random.Random(seed), flow, 25):
                self.assertEqual(all_told(made), gone_on)
            self.assertEqual(all_told(flow), gone_on)

    def test_a_copy_in_the_middle_of_a_pull(self):
        flow = flow_of("source, scan 5 0, take 2 1", [2], [[1, 2, 3]], [(1, 1, 1)])
        steps_of(flow, 0, 2)
        made = flow.copy()
        self.assertEqual(made.next_step(0), ("fire", 2))
        self.assertEqual(pulled(made, 0), [[6], [9]])
        self.assertEqual(made.sources(), [(0, 2, "closed")])
        self.assertEqual(flow.sources(), [(0, 1, "open")])
        self.assertEqual(pulled(flow, 0), [[6], [9]])

    def test_a_copy_of_a_copy_with_forks(self):
        flow = flow_of("source", [0], [[1, 2]])
        made = flow.copy()
        made.fork(0)
        again = made.copy()
        again.close(0)
        self.assertEqual([len(each.readers()) for each in (flow, made, again)], [1, 2, 2])
        self.assert_reason("no such reader", flow.pull, 1)
        self.assertEqual(pulled(again, 1), [[1], [2]])
        self.assertEqual(pulled(made, 0), [[1], [2]])


if __name__ == "__main__":
    unittest.main()
