"""Readers: what they receive, alone and in turn, forked and closed."""

import random
import unittest

from drawn import KINDS, drawn_parts, walk
from flowing import FlowCase, all_told, flow_of, pulled, steps_of
from leastpull.flows import Flow
from leastpull.wholes import whole_rows


def row_at(rows, index):
    return rows[index] if index < len(rows) else None


class WholeRowsTest(FlowCase):
    def test_pulls_to_the_end_give_the_whole_rows(self):
        kinds = set()
        for seed in range(300):
            graph, _, values, rules = drawn_parts(random.Random(seed))
            kinds.update(node[0] for node in graph.nodes)
            whole = whole_rows(graph, values, rules)
            for node in range(len(graph.nodes)):
                flow = Flow(graph, [node], values, rules)
                self.assertEqual(pulled(flow, 0), whole[node], (seed, node))
                self.assertEqual(flow.readers(), [(node, len(whole[node]), False)])
                self.assertIsNone(flow.pull(0))
        self.assertEqual(kinds, set(KINDS))

    def test_long_pulls(self):
        text = "source, source, merge 0 1, map 2, window 3 3, scan 7 4, filter 5"
        values = [list(range(200)), list(range(-100, 100))]
        flow = flow_of(text, [6, 5], values, [(1, 1, 3), (2, 1, 5), (1, 1, 1), (1, 0, 0)])
        whole = whole_rows(flow.graph, values, [(1, 1, 3), (2, 1, 5), (1, 1, 1), (1, 0, 0)])
        self.assertEqual(len(whole[5]), 398)
        self.assertEqual(pulled(flow, 0), whole[6])
        self.assertEqual(pulled(flow, 1), whole[5])

    def test_readers_in_turn(self):
        for seed in range(300):
            rng = random.Random(seed)
            graph, nodes, values, rules = drawn_parts(rng)
            nodes.append(nodes[0])
            whole = whole_rows(graph, values, rules)
            flow = Flow(graph, nodes, values, rules)
            received = [[] for _ in nodes]
            for _ in range(40):
                reader = rng.randrange(len(nodes))
                row = flow.pull(reader)
                self.assertEqual(row, row_at(whole[nodes[reader]], len(received[reader])))
                if row is not None:
                    received[reader].append(row)
            for reader, node in enumerate(nodes):
                self.assertEqual(received[reader] + pulled(flow, reader), whole[node])

    def test_steps_pulls_forks_and_closings_in_turn(self):
        for seed in range(300):
            rng = random.Random(seed)
            graph, nodes, values, rules = drawn_parts(rng)
            whole = whole_rows(graph, values, rules)
            flow = Flow(graph, nodes, values, rules)
            for _ in walk(rng, flow, 40):
                for rows, produced in zip(whole, flow.produced()):
                    self.assertEqual(rows[:len(produced)], produced)
            for reader, (node, position, active) in enumerate(flow.readers()):
                self.assertEqual(pulled(flow, reader), whole[node][position:] if active else [])

    def test_no_function_is_called_twice_with_the_same_indexes(self):
        for seed in range(200):
            rng = random.Random(seed)
            flow = Flow(*drawn_parts(rng))
            for _ in walk(rng, flow, 60):
                pass
            self.assertEqual(len(set(flow.calls())), len(flow.calls()))


class ExhaustedTest(FlowCase):
    def test_a_pull_behind_the_last_row(self):
        flow = flow_of("source", [0, 0], [[5]])
        self.assertEqual(flow.pull(0), [5])
        self.assertIsNone(flow.pull(0))
        self.assertEqual(flow.readers(), [(0, 1, False), (0, 0, True)])
        told = all_told(flow)
        self.assertIsNone(flow.pull(0))
        self.assertEqual(all_told(flow), told)

    def test_a_step_makes_no_reader_exhausted(self):
        flow = flow_of("source, take 0 0", [1], [[5]])
        told = all_told(flow)
        self.assertEqual(flow.step(0), ("exhausted",))
        self.assertEqual(all_told(flow), told)
        self.assertEqual(flow.readers(), [(1, 0, True)])

    def test_a_step_receives_nothing(self):
        flow = flow_of("source", [0], [[5]])
        flow.step(0)
        told = all_told(flow)
        self.assertEqual(flow.step(0), ("ready",))
        self.assertEqual(all_told(flow), told)
        self.assertEqual(flow.readers(), [(0, 0, True)])

    def test_next_step_does_nothing(self):
        flow = flow_of("source", [0], [[5]])
        told = all_told(flow)
        for _ in range(3):
            self.assertEqual(flow.next_step(0), ("read", 0))
        self.assertEqual(all_told(flow), told)

    def test_a_reader_that_is_exhausted_only_when_it_is_pulled(self):
        flow = flow_of("source, while 0", [1, 1], [[3]], [(1, 0, 0)])
        self.assertIsNone(flow.pull(0))
        self.assertEqual(flow.readers(), [(1, 0, False), (1, 0, True)])
        self.assertEqual(flow.next_step(1), ("exhausted",))
        self.assertIsNone(flow.pull(1))


class CloseTest(FlowCase):
    def test_a_closed_reader_is_idle(self):
        flow = flow_of("source", [0, 0], [[5, 6]])
        flow.pull(0)
        self.assertIsNone(flow.close(0))
        self.assertEqual(flow.readers(), [(0, 1, False), (0, 0, True)])
        self.assertEqual(flow.next_step(0), ("idle",))
        self.assertEqual(flow.step(0), ("idle",))
        self.assertIsNone(flow.pull(0))
        self.assertEqual(pulled(flow, 1), [[5], [6]])

    def test_closing_twice(self):
        flow = flow_of("source", [0], [[5, 6]])
        flow.close(0)
        told = all_told(flow)
        self.assertIsNone(flow.close(0))
        self.assertEqual(all_told(flow), told)
        self.assertEqual(flow.events(), [("close", 0)])

    def test_closing_an_exhausted_reader(self):
        flow = flow_of("source, take 0 0", [1], [[5, 6]])
        flow.pull(0)
        told = all_told(flow)
        self.assertIsNone(flow.close(0))
        self.assertEqual(all_told(flow), told)

    def idle_in_the_middle(self):
        """A flow whose source is idle, with a reader 1 that is not active."""
        flow = flow_of("source, take 1 0, map 1", [2, 2], [[5, 6]], [(1, 0, 0)])
        flow.close(1)
        flow.step(0)
        self.assertEqual(flow.sources(), [(0, 1, "idle")])
        return flow

    def test_nothing_settles_for_a_reader_that_is_not_active(self):
        flow = self.idle_in_the_middle()
        told = all_told(flow)
        flow.close(1)
        flow.pull(1)
        flow.step(1)
        self.assertEqual(all_told(flow), told)

    def test_closing_settles(self):
        flow = self.idle_in_the_middle()
        flow.close(0)
        self.assertEqual(flow.sources(), [(0, 1, "closed")])


class ForkTest(FlowCase):
    def test_a_fork_of_an_active_reader(self):
        flow = flow_of("source", [0], [[5, 6, 7]])
        flow.pull(0)
        self.assertEqual(flow.fork(0), 1)
        self.assertEqual(flow.readers(), [(0, 1, True), (0, 1, True)])
        self.assertEqual(pulled(flow, 1), [[6], [7]])
        self.assertEqual(flow.kept(), [[1, 2]])
        self.assertEqual(pulled(flow, 0), [[6], [7]])

    def test_a_fork_of_an_exhausted_reader(self):
        flow = flow_of("source", [0, 0], [[5]])
        self.assertEqual(pulled(flow, 0), [[5]])
        self.assertEqual(flow.fork(0), 2)
        self.assertEqual(flow.readers()[2], (0, 1, False))
        self.assertIsNone(flow.pull(2))

    def test_a_fork_of_a_closed_reader(self):
        flow = flow_of("source", [0], [[5, 6]])
        flow.pull(0)
        flow.close(0)
        self.assertEqual(flow.fork(0), 1)
        self.assertEqual(flow.readers(), [(0, 1, False), (0, 1, False)])
        self.assertEqual(flow.next_step(1), ("idle",))

    def test_a_fork_in_the_middle_of_a_pull(self):
        flow = flow_of("source, map 0, take 1 1", [2], [[5, 6]], [(1, 0, 0)])
        steps_of(flow, 0, 2)
        self.assertEqual(flow.sources(), [(0, 1, "idle")])
        self.assertEqual(flow.fork(0), 1)
        self.assertEqual(flow.sources(), [(0, 1, "idle")])
        self.assertEqual(flow.next_step(1), ("fire", 2))
        self.assertEqual(flow.pull(1), [5])
        self.assertEqual(flow.events(), [("read", 0), ("close", 0)])
        self.assertEqual(flow.pull(0), [5])

    def test_a_fork_of_a_fork(self):
        flow = flow_of("source", [0, 0], [[5, 6]])
        flow.pull(1)
        self.assertEqual([flow.fork(1), flow.fork(2), flow.fork(0)], [2, 3, 4])
        self.assertEqual([position for _, position, _ in flow.readers()], [0, 1, 1, 1, 0])

    def test_a_twelfth_and_a_thirteenth_reader(self):
        flow = flow_of("source", [0] * 6, [[5]])
        self.assertEqual([flow.fork(0) for _ in range(6)], [6, 7, 8, 9, 10, 11])
        self.assertEqual(len(flow.readers()), 12)
        told = all_told(flow)
        self.assert_reason("too many readers", flow.fork, 0)
        self.assert_reason("too many readers", flow.fork, 11)
        self.assertEqual(all_told(flow), told)

    def test_readers_that_are_not_active_count(self):
        flow = flow_of("source", [0], [[5]])
        for reader in range(11):
            flow.close(reader)
            flow.fork(reader)
        self.assert_reason("too many readers", flow.fork, 0)


class NoSuchReaderTest(FlowCase):
    def test_in_each_call(self):
        flow = flow_of("source", [0, 0], [[5, 6]])
        flow.step(0)
        told = all_told(flow)
        for function in (flow.next_step, flow.step, flow.pull, flow.fork, flow.close):
            for reader in (2, 3, 12, -1, -2, 10 ** 9):
                self.assert_reason("no such reader", function, reader)
            for reader in (True, False, None, "0", [0], (0,)):
                self.assert_reason("no such reader", function, reader)
        self.assertEqual(all_told(flow), told)

    def test_ahead_of_too_many_readers(self):
        flow = flow_of("source", [0] * 6, [[5]])
        for _ in range(6):
            flow.fork(0)
        self.assert_reason("no such reader", flow.fork, 12)
        self.assert_reason("no such reader", flow.fork, -1)

    def test_both_sides_of_the_bound(self):
        flow = flow_of("source", [0], [[5]])
        self.assertEqual(flow.next_step(0), ("read", 0))
        self.assert_reason("no such reader", flow.next_step, 1)
        flow.fork(0)
        self.assertEqual(flow.next_step(1), ("read", 0))


if __name__ == "__main__":
    unittest.main()
