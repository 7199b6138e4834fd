"""What a flow cannot be made of, and the order of the reasons."""

import unittest

from flowing import FlowCase, flow_of
from leastpull.flows import Flow
from leastpull.graphs import Graph
from samples import SOURCE

READERS = "wrong readers"
VALUES = "wrong values"
RULES = "wrong rules"
NODES = [SOURCE, ("map", 0), SOURCE, ("filter", 2)]
RULE = (0, 0, 0)


class FlowErrorCase(FlowCase):
    def setUp(self):
        self.graph = Graph(NODES)

    def assert_wrong(self, reason, nodes, values, rules):
        self.assert_reason(reason, Flow, self.graph, nodes, values, rules)

    def assert_right(self, nodes, values, rules):
        self.assertIs(Flow(self.graph, nodes, values, rules).graph, self.graph)


class ReadersTest(FlowErrorCase):
    def assert_wrong_readers(self, nodes):
        self.assert_wrong(READERS, nodes, [[], []], [RULE, RULE])

    def test_how_many(self):
        for count in (1, 2, 6):
            self.assert_right([1] * count, [[], []], [RULE, RULE])
        for count in (0, 7, 8, 100):
            self.assert_wrong_readers([1] * count)

    def test_numbers_of_nodes(self):
        for node in (0, 1, 2, 3):
            self.assert_right([node], [[], []], [RULE, RULE])
        for wrong in (4, 5, 12, -1, -4, 10 ** 9, True, False, None, "0", [0], (0,)):
            self.assert_wrong_readers([wrong])
            self.assert_wrong_readers([0, wrong])
            self.assert_wrong_readers([wrong, 0])

    def test_the_first_readers(self):
        flow = flow_of("source, take 3 0", [1, 0, 1], [[4]])
        self.assertEqual(flow.readers(), [(1, 0, True), (0, 0, True), (1, 0, True)])


class ValuesTest(FlowErrorCase):
    def assert_wrong_values(self, values):
        self.assert_wrong(VALUES, [0], values, [RULE, RULE])

    def test_one_list_for_each_source(self):
        self.assert_right([0], [[1], [2, 3]], [RULE, RULE])
        for wrong in ([], [[]], [[], [], []], [[1], 2], [None, []], [[], (1,)]):
            self.assert_wrong_values(wrong)

    def test_how_many(self):
        self.assert_right([0], [[5] * 200, [6] * 200], [RULE, RULE])
        self.assert_wrong_values([[5] * 201, []])
        self.assert_wrong_values([[], [5] * 201])

    def test_bounds(self):
        self.assert_right([0], [[-1000000, 0], [1000000, -1]], [RULE, RULE])
        for wrong in (-1000001, 1000001, 10 ** 30, True, False, None, "1", 1.0, [1]):
            self.assert_wrong_values([[1, wrong], []])
            self.assert_wrong_values([[], [wrong]])

    def test_a_graph_with_one_source(self):
        self.assert_reason(VALUES, Flow, Graph([SOURCE]), [0], [], [])
        self.assert_reason(VALUES, Flow, Graph([SOURCE]), [0], [[], []], [])


class RulesTest(FlowErrorCase):
    def assert_wrong_rules(self, rules):
        self.assert_wrong(RULES, [0], [[], []], rules)

    def test_one_for_each_calling_node(self):
        self.assert_right([0], [[], []], [RULE, RULE])
        for wrong in ([], [RULE], [RULE] * 3):
            self.assert_wrong_rules(wrong)
        self.assert_reason(RULES, Flow, Graph([SOURCE]), [0], [[]], [RULE])

    def test_three_integers(self):
        for wrong in ((), (1,), (1, 2), (1, 2, 3, 4), None, 5, "123", [1, 2, 3]):
            self.assert_wrong_rules([wrong, RULE])
            self.assert_wrong_rules([RULE, wrong])

    def test_bounds(self):
        self.assert_right([0], [[], []], [(9, -9, 9), (-9, 9, -9)])
        for wrong in (10, -10, 11, 1000, True, False, None, "1", 1.0):
            for rule in ((wrong, 0, 0), (0, wrong, 0), (0, 0, wrong)):
                self.assert_wrong_rules([rule, RULE])
                self.assert_wrong_rules([RULE, rule])


class OrderTest(FlowErrorCase):
    def test_readers_ahead_of_values_ahead_of_rules(self):
        self.assert_wrong(READERS, [], [], [])
        self.assert_wrong(READERS, [4], [[True], []], [RULE])
        self.assert_wrong(READERS, [0] * 7, [[], []], [(10, 0, 0), RULE])
        self.assert_wrong(VALUES, [0], [], [])
        self.assert_wrong(VALUES, [0], [[1000001], []], [(0, 0), RULE])
        self.assert_wrong(RULES, [0], [[], []], [])


if __name__ == "__main__":
    unittest.main()
