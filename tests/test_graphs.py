import unittest

from leastpull.errors import GraphError, LeastpullError
from leastpull.graphs import Graph, calling_nodes, greatest_lengths, source_nodes, widths
from samples import ALL_KINDS, SOURCE

NOT_A_NODE = "not a node"
NO_INPUT = "no such input"
WIDTHS = "widths differ"
WIDE = "too wide"
LONG = "too long"
SOURCES = "too many sources"
NUMBER = "wrong number of nodes"


class GraphCase(unittest.TestCase):
    def assert_wrong(self, nodes, number, reason):
        with self.assertRaises(GraphError) as caught:
            Graph(nodes)
        self.assertEqual((caught.exception.node, caught.exception.reason), (number, reason), nodes)

    def assert_second_is_no_node(self, node):
        self.assert_wrong([SOURCE, node], 1, NOT_A_NODE)

    def assert_right(self, nodes):
        self.assertEqual(Graph(nodes).nodes, nodes)


class FieldsTest(GraphCase):
    def test_all_kinds_are_taken(self):
        self.assert_right(ALL_KINDS)

    def test_nodes_is_a_copy_of_the_list(self):
        nodes = [SOURCE, ("map", 0)]
        graph = Graph(nodes)
        self.assertIsInstance(graph.nodes, list)
        self.assertIsNot(graph.nodes, nodes)
        self.assertIn("nodes", vars(graph))

    def test_the_error_is_one_of_the_program(self):
        self.assertRaises(LeastpullError, Graph, [])
        self.assertRaises(ValueError, Graph, [("map", 0)])


class NumberOfNodesTest(GraphCase):
    def test_no_nodes(self):
        self.assert_wrong([], 0, NUMBER)

    def test_one_node_and_twelve(self):
        self.assert_right([SOURCE])
        self.assert_right([SOURCE] + [("map", 0)] * 11)

    def test_thirteen_nodes_and_more(self):
        self.assert_wrong([SOURCE] + [("map", 0)] * 12, 13, NUMBER)
        self.assert_wrong([SOURCE] * 30, 30, NUMBER)

    def test_it_goes_ahead_of_all_others(self):
        self.assert_wrong([("nothing",)] + [SOURCE] * 12, 13, NUMBER)
        self.assert_wrong([None] * 13, 13, NUMBER)


class FormTest(GraphCase):
    def test_what_is_no_tuple(self):
        for wrong in (None, 0, 7, True, "source", b"source", ["source"], {"source": 0}, ["map", 0]):
            self.assert_wrong([wrong], 0, NOT_A_NODE)
            self.assert_second_is_no_node(wrong)

    def test_an_unknown_word(self):
        for word in ("", "sources", "Source", "source ", "join", "idle", None, 0, True, b"source"):
            self.assert_second_is_no_node((word,))
            self.assert_second_is_no_node((word, 0))

    def test_a_word_that_no_dict_takes_as_a_key(self):
        for word in ([], {}, ["source"], ([],)):
            self.assert_second_is_no_node((word,))
            self.assert_second_is_no_node((word, 0))

    def test_wrong_lengths(self):
        wrong = [
            (),
            ("source", 0), ("source", 0, 0),
            ("map",), ("map", 0, 0),
            ("filter",), ("filter", 0, 0),
            ("while",), ("while", 0, 0),
            ("take",), ("take", 0), ("take", 1, 0, 0),
            ("drop",), ("drop", 0), ("drop", 1, 0, 0),
            ("window",), ("window", 1), ("window", 1, 0, 0),
            ("scan",), ("scan", 0), ("scan", 1, 0, 0),
            ("zip",), ("zip", 0), ("zip", 0, 0, 0),
            ("merge",), ("merge", 0), ("merge", 0, 0, 0),
        ]
        for node in wrong:
            self.assert_second_is_no_node(node)

    def test_bounds_of_n(self):
        for kind, least in (("take", 0), ("drop", 0), ("window", 1)):
            self.assert_right([SOURCE, (kind, least, 0)])
            self.assert_second_is_no_node((kind, least - 1, 0))
        for kind in ("take", "drop"):
            self.assert_right([SOURCE, (kind, 20, 0)])
        for kind in ("take", "drop", "window"):
            self.assert_second_is_no_node((kind, 21, 0))
        # A window of 20 is a node, but no graph has room for its rows.
        self.assert_wrong([SOURCE, ("window", 20, 0)], 1, WIDE)

    def test_bounds_of_v(self):
        for start in (-1000, -1, 0, 1000):
            self.assert_right([SOURCE, ("scan", start, 0)])
        for start in (-1001, 1001):
            self.assert_second_is_no_node(("scan", start, 0))

    def test_what_is_no_integer_as_n_or_v(self):
        for kind in ("take", "drop", "window", "scan"):
            for wrong in (True, False, None, "1", 1.0, [1], (1,)):
                self.assert_second_is_no_node((kind, wrong, 0))

    def test_what_is_no_number_as_an_input(self):
        for wrong in (True, False, None, "0", 0.0, [0], (0,), -1, -2):
            for kind in ("map", "filter", "while"):
                self.assert_second_is_no_node((kind, wrong))
            for kind in ("take", "drop", "window", "scan"):
                self.assert_second_is_no_node((kind, 1, wrong))
            for kind in ("zip", "merge"):
                self.assert_second_is_no_node((kind, wrong, 0))
                self.assert_second_is_no_node((kind, 0, wrong))


class InputTest(GraphCase):
    def test_the_node_itself_or_a_later_one(self):
        for p in (1, 2, 11, 10 ** 9):
            for kind in ("map", "filter", "while"):
                self.assert_wrong([SOURCE, (kind, p), SOURCE], 1, NO_INPUT)
            for kind in ("take", "drop", "window", "scan"):
                self.assert_wrong([SOURCE, (kind, 1, p), SOURCE], 1, NO_INPUT)
            for kind in ("zip", "merge"):
                self.assert_wrong([SOURCE, (kind, p, 0), SOURCE], 1, NO_INPUT)
                self.assert_wrong([SOURCE, (kind, 0, p), SOURCE], 1, NO_INPUT)

    def test_the_first_node_has_none(self):
        self.assert_wrong([("map", 0)], 0, NO_INPUT)
        self.assert_wrong([("zip", 0, 0)], 0, NO_INPUT)

    def test_the_node_just_ahead_is_one(self):
        self.assert_right([SOURCE, ("map", 0), ("map", 1), ("zip", 2, 2), ("merge", 3, 3)])


class WidthTest(GraphCase):
    def test_width_12_and_13(self):
        self.assert_right([SOURCE, ("window", 12, 0)])
        self.assert_wrong([SOURCE, ("window", 13, 0)], 1, WIDE)
        six = [SOURCE, ("window", 6, 0)]
        self.assert_right(six + [("window", 2, 1)])
        self.assert_wrong(six + [("window", 3, 1)], 2, WIDE)
        self.assert_right(six + [("zip", 1, 1)])
        self.assert_wrong(six + [("window", 7, 0), ("zip", 1, 2)], 3, WIDE)

    def test_a_merge_of_equal_widths(self):
        self.assert_right([SOURCE, ("merge", 0, 0)])
        self.assert_right([SOURCE, ("window", 3, 0), ("zip", 0, 0), ("zip", 2, 0), ("merge", 1, 3)])

    def test_a_merge_of_different_widths(self):
        two = [SOURCE, ("window", 2, 0)]
        self.assert_wrong(two + [("merge", 0, 1)], 2, WIDTHS)
        self.assert_wrong(two + [("merge", 1, 0)], 2, WIDTHS)
        # A zip of the same inputs is right.
        self.assert_right(two + [("zip", 0, 1)])


class LengthTest(GraphCase):
    def test_greatest_length_400_and_401(self):
        nodes = [SOURCE, ("merge", 0, 0), ("take", 1, 0), ("take", 0, 0)]
        self.assert_right(nodes + [("merge", 1, 3)])
        self.assertEqual(greatest_lengths(Graph(nodes + [("merge", 1, 3)]))[4], 400)
        self.assert_wrong(nodes + [("merge", 1, 2)], 4, LONG)
        self.assert_wrong(nodes + [("merge", 2, 1)], 4, LONG)
        self.assert_wrong(nodes + [("merge", 1, 1)], 4, LONG)

    def test_what_is_dropped_counts_no_more(self):
        nodes = [SOURCE, ("merge", 0, 0), ("drop", 20, 1), ("take", 20, 0)]
        self.assert_right(nodes + [("merge", 2, 3)])
        self.assert_wrong(nodes + [("drop", 19, 1), ("merge", 4, 3)], 5, LONG)


class SourcesTest(GraphCase):
    def test_four_sources_and_a_fifth(self):
        self.assert_right([SOURCE] * 4)
        self.assert_wrong([SOURCE] * 5, 4, SOURCES)
        self.assert_wrong([SOURCE] * 12, 4, SOURCES)

    def test_only_sources_count(self):
        nodes = [SOURCE, ("map", 0), SOURCE, SOURCE, ("map", 3), SOURCE]
        self.assert_right(nodes + [("map", 5)])
        self.assert_wrong(nodes + [("map", 5), SOURCE], 7, SOURCES)


class OrderTest(GraphCase):
    def test_no_node_ahead_of_no_such_input(self):
        self.assert_wrong([SOURCE, ("take", 21, 9)], 1, NOT_A_NODE)
        self.assert_wrong([SOURCE, ("zip", 9, -1)], 1, NOT_A_NODE)
        self.assert_wrong([("map", 0, 0)], 0, NOT_A_NODE)

    def test_no_such_input_ahead_of_different_widths(self):
        two = [SOURCE, ("window", 2, 0)]
        self.assert_wrong(two + [("merge", 0, 2)], 2, NO_INPUT)
        self.assert_wrong(two + [("merge", 3, 1), ("window", 1, 0)], 2, NO_INPUT)

    def test_no_such_input_ahead_of_too_wide(self):
        self.assert_wrong([SOURCE, ("window", 20, 1)], 1, NO_INPUT)

    def test_different_widths_ahead_of_too_long(self):
        nodes = [SOURCE, ("merge", 0, 0), ("window", 2, 1)]
        self.assert_wrong(nodes + [("merge", 1, 2)], 3, WIDTHS)
        self.assert_wrong(nodes + [("merge", 2, 2)], 3, LONG)

    def test_the_first_wrong_node_counts(self):
        later = [SOURCE, SOURCE, SOURCE, SOURCE, None, ("map", 99), ("merge", 0, 9)]
        self.assert_wrong([("map", 0)] + later, 0, NO_INPUT)
        self.assert_wrong([SOURCE] + later, 4, SOURCES)
        self.assert_wrong([SOURCE, ("window", 13, 0)] + later, 1, WIDE)
        self.assert_wrong([SOURCE, ("zip", 0, 0), ("merge", 0, 1)] + later, 2, WIDTHS)
        self.assert_wrong([SOURCE, ("merge", 0, 0), ("merge", 0, 1)] + later, 2, LONG)
        self.assert_wrong([SOURCE, ("map", 7), ("take", 21, 0)] + later, 1, NO_INPUT)
        self.assert_wrong([SOURCE, ("take", 21, 0), ("map", 7)] + later, 1, NOT_A_NODE)


class TellsTest(unittest.TestCase):
    def test_widths(self):
        self.assertEqual(widths(Graph(ALL_KINDS)), [1, 1, 1, 1, 1, 1, 1, 5, 1, 6, 1])

    def test_greatest_lengths(self):
        lengths = [200, 200, 200, 200, 200, 10, 180, 196, 196, 196, 396]
        self.assertEqual(greatest_lengths(Graph(ALL_KINDS)), lengths)

    def test_kinds_over_wide_rows(self):
        nodes = [SOURCE, ("window", 3, 0)]
        over = [
            (("map", 1), 1, 198),
            (("filter", 1), 3, 198),
            (("while", 1), 3, 198),
            (("take", 7, 1), 3, 7),
            (("drop", 7, 1), 3, 191),
            (("window", 4, 1), 12, 195),
            (("window", 1, 1), 3, 198),
            (("scan", 5, 1), 1, 198),
            (("zip", 0, 1), 4, 198),
            (("zip", 1, 0), 4, 198),
            (("zip", 1, 1), 6, 198),
            (("merge", 1, 1), 3, 396),
        ]
        for node, width, length in over:
            graph = Graph(nodes + [node])
            self.assertEqual(widths(graph), [1, 3, width], node)
            self.assertEqual(greatest_lengths(graph), [200, 198, length], node)

    def test_lengths_are_never_below_0(self):
        nodes = [SOURCE, ("take", 3, 0), ("drop", 4, 1), ("window", 5, 1), ("take", 0, 0)]
        nodes += [("drop", 3, 1), ("window", 3, 1), ("window", 4, 1), ("take", 20, 1), ("zip", 4, 0)]
        self.assertEqual(greatest_lengths(Graph(nodes)), [200, 3, 0, 0, 0, 0, 1, 0, 3, 0])

    def test_source_nodes(self):
        self.assertEqual(source_nodes(Graph(ALL_KINDS)), [0, 1])
        self.assertEqual(source_nodes(Graph([SOURCE, ("map", 0), SOURCE])), [0, 2])

    def test_calling_nodes(self):
        self.assertEqual(calling_nodes(Graph(ALL_KINDS)), [2, 3, 4, 8, 10])
        plain = [SOURCE, ("take", 1, 0), ("drop", 1, 0), ("window", 1, 0), ("zip", 0, 0)]
        self.assertEqual(calling_nodes(Graph(plain)), [])


if __name__ == "__main__":
    unittest.main()
