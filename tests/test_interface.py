"""The names of the interface stand where the document lists them."""

import inspect
import unittest

from leastpull import errors, flows, futures, graphs, needs, papers, wholes

FUNCTIONS = {
    graphs: ("widths graph", "greatest_lengths graph", "source_nodes graph", "calling_nodes graph",
             "graph_text graph", "read_graph text"),
    wholes: ("whole_rows graph values rules",),
    futures: ("carry_out flow future",),
    needs: ("need_of_row flow node index", "need_of_source flow node", "pair_for_read flow reader",
            "is_need_of_row flow node index future", "is_need_of_source flow node future",
            "is_pair_for_read flow reader one two"),
    papers: ("paper_of flow", "is_right flow paper", "denies_row flow paper node index",
             "denies_source flow paper node"),
}

CLASSES = {
    errors: ("GraphError node reason", "TextError line", "FlowError reason"),
    graphs: ("Graph nodes",),
    flows: ("Flow graph nodes values rules",),
    futures: ("Future further tapes pulls", "Outcome results accessed reads"),
    papers: ("Paper remaining demands looks",),
}

FLOW_METHODS = (
    "next_step reader", "step reader", "pull reader", "fork reader", "close reader", "readers", "produced",
    "kept", "positions", "sources", "events", "calls", "remaining", "demands", "looks", "explain node index",
    "copy",
)


class InterfaceTest(unittest.TestCase):
    def assert_takes(self, function, names):
        self.assertEqual(list(inspect.signature(function).parameters), names)

    def test_functions(self):
        for module, lines in FUNCTIONS.items():
            for line in lines:
                name, *names = line.split()
                function = getattr(module, name)
                self.assertEqual(function.__module__, module.__name__, name)
                self.assert_takes(function, names)

    def test_classes(self):
        for module, lines in CLASSES.items():
            for line in lines:
                name, *names = line.split()
                self.assertEqual(getattr(module, name).__module__, module.__name__, name)
                self.assert_takes(getattr(module, name), names)

    def test_methods_of_a_flow(self):
        for line in FLOW_METHODS:
            name, *names = line.split()
            self.assertIn(name, vars(flows.Flow))
            self.assert_takes(vars(flows.Flow)[name], ["self"] + names)

    def test_fields_are_set_on_each_object(self):
        self.assertEqual(set(vars(futures.Future([], [], []))), {"further", "tapes", "pulls"})
        self.assertEqual(set(vars(futures.Outcome([], [], []))), {"results", "accessed", "reads"})
        self.assertEqual(set(vars(papers.Paper([], [], []))), {"remaining", "demands", "looks"})
        graph = graphs.Graph([("source",)])
        self.assertIs(vars(flows.Flow(graph, [0], [[]], []))["graph"], graph)


if __name__ == "__main__":
    unittest.main()
