"""What is passed stays as it is; what is passed or returned may change without any effect."""

import copy
import unittest

from leastpull.errors import GraphError
from leastpull.graphs import Graph, calling_nodes, graph_text, greatest_lengths, read_graph
from leastpull.graphs import source_nodes, widths
from leastpull.wholes import whole_rows
from samples import ALL_KINDS, ALL_KINDS_TEXT, SOURCE

VALUES = [[1, 2, 3], [4, 5, -9, 7, 8, 9]]
RULES = [(2, 0, 1), (1, 0, 0), (1, 0, 0), (1, -1, 0), (1, 1, 0)]


def all_that_is_told(graph):
    return (
        widths(graph), greatest_lengths(graph), source_nodes(graph), calling_nodes(graph),
        graph_text(graph), whole_rows(graph, VALUES, RULES),
    )


class ArgumentsTest(unittest.TestCase):
    def test_the_nodes_are_not_modified(self):
        nodes = list(ALL_KINDS)
        Graph(nodes)
        self.assertEqual(nodes, ALL_KINDS)
        wrong = [SOURCE, ["map", 0], None]
        self.assertRaises(GraphError, Graph, wrong)
        self.assertEqual(wrong, [SOURCE, ["map", 0], None])

    def test_no_function_modifies_the_graph(self):
        graph = Graph(ALL_KINDS)
        all_that_is_told(graph)
        self.assertEqual(graph.nodes, ALL_KINDS)

    def test_values_and_rules_are_not_modified(self):
        values = copy.deepcopy(VALUES)
        rules = list(RULES)
        whole_rows(Graph(ALL_KINDS), values, rules)
        self.assertEqual(values, VALUES)
        self.assertEqual(rules, RULES)

    def test_later_changes_to_the_nodes(self):
        nodes = list(ALL_KINDS)
        graph = Graph(nodes)
        told = all_that_is_told(graph)
        nodes[2] = ("take", 0, 0)
        nodes.append(SOURCE)
        self.assertEqual(graph.nodes, ALL_KINDS)
        self.assertEqual(all_that_is_told(graph), told)

    def test_later_changes_to_the_values(self):
        values = copy.deepcopy(VALUES)
        rows = whole_rows(Graph(ALL_KINDS), values, RULES)
        before = copy.deepcopy(rows)
        values[0].append(5)
        values[1][0] = 5
        self.assertEqual(rows, before)


class ReturnedTest(unittest.TestCase):
    def test_changes_to_the_field_nodes(self):
        for graph in (Graph(ALL_KINDS), read_graph(ALL_KINDS_TEXT)):
            told = all_that_is_told(graph)
            graph.nodes[2] = ("take", 0, 0)
            graph.nodes.append(("nothing",))
            self.assertEqual(all_that_is_told(graph), told)

    def test_changes_to_lists_of_numbers(self):
        graph = Graph(ALL_KINDS)
        for function in (widths, greatest_lengths, source_nodes, calling_nodes):
            returned = function(graph)
            before = list(returned)
            self.assertIsInstance(returned, list)
            returned[0] = 77
            returned.append(78)
            self.assertEqual(function(graph), before)

    def test_changes_to_whole_rows(self):
        graph = Graph(ALL_KINDS)
        returned = whole_rows(graph, VALUES, RULES)
        before = copy.deepcopy(returned)
        for rows in returned:
            for row in rows:
                row[0] = 77
                row.append(78)
            rows.append([79])
        returned.append([])
        self.assertEqual(whole_rows(graph, VALUES, RULES), before)
        self.assertEqual(VALUES, [[1, 2, 3], [4, 5, -9, 7, 8, 9]])

    def test_no_two_rows_are_the_same_list(self):
        nodes = [
            SOURCE, ("filter", 0), ("while", 0), ("take", 9, 0), ("drop", 0, 0),
            ("window", 1, 0), ("scan", 0, 0), ("merge", 0, 0), ("zip", 0, 0), ("map", 0),
        ]
        rules = [(0, 0, 1)] * 5
        returned = whole_rows(Graph(nodes), [[1, 2, 3]], rules)
        lists = [id(rows) for rows in returned] + [id(row) for rows in returned for row in rows]
        self.assertEqual(len(set(lists)), len(lists))
        self.assertEqual(len(lists), 10 + 9 * 3 + 6)


if __name__ == "__main__":
    unittest.main()
