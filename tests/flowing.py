"""Short ways to make flows and to go on with them."""

import unittest

from leastpull.errors import FlowError
from leastpull.flows import Flow
from leastpull.graphs import read_graph


def flow_of(text, nodes, values, rules=()):
    """A flow of the graph with these lines, separated by commas."""
    lines = [line.strip() for line in text.split(",")]
    return Flow(read_graph("".join(line + "\n" for line in lines)), list(nodes), values, list(rules))


def pulled(flow, reader, most=10 ** 6):
    """The rows of a reader's pulls, up to the first None."""
    rows = []
    while len(rows) < most:
        row = flow.pull(reader)
        if row is None:
            break
        rows.append(row)
    return rows


def steps_of(flow, reader, count):
    return [flow.step(reader) for _ in range(count)]


def all_told(flow):
    """All that a flow tells."""
    produced = flow.produced()
    nodes = range(len(produced))
    return (
        flow.readers(), produced, flow.kept(), flow.positions(), flow.sources(), flow.events(), flow.calls(),
        flow.remaining(), flow.demands(), flow.looks(),
        [flow.next_step(reader) for reader in range(len(flow.readers()))],
        [flow.explain(node, None) for node in nodes],
        [[flow.explain(node, index) for index in range(len(produced[node]))] for node in nodes],
    )


class FlowCase(unittest.TestCase):
    def assert_reason(self, reason, function, *arguments):
        with self.assertRaises(FlowError) as caught:
            function(*arguments)
        self.assertEqual(caught.exception.reason, reason, arguments)

    def assert_measures(self, flow, remaining, demands, looks):
        self.assertEqual(flow.remaining(), remaining)
        self.assertEqual(flow.demands(), demands)
        self.assertEqual(flow.looks(), looks)
