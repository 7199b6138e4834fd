import unittest

from leastpull.errors import GraphError, LeastpullError, TextError
from leastpull.graphs import Graph, graph_text, read_graph
from samples import ALL_KINDS, ALL_KINDS_TEXT, SOURCE


class TextCase(unittest.TestCase):
    def assert_wrong_line(self, text, line):
        with self.assertRaises(TextError) as caught:
            read_graph(text)
        self.assertEqual(caught.exception.line, line, text)

    def assert_wrong_graph(self, text, node, reason):
        with self.assertRaises(GraphError) as caught:
            read_graph(text)
        self.assertEqual((caught.exception.node, caught.exception.reason), (node, reason), text)


class WritingTest(TextCase):
    def test_the_line_of_each_kind(self):
        lines = [
            (("source",), "source\n"),
            (("map", 0), "map 0\n"),
            (("filter", 1), "filter 1\n"),
            (("while", 0), "while 0\n"),
            (("take", 10, 1), "take 10 1\n"),
            (("drop", 0, 1), "drop 0 1\n"),
            (("window", 12, 0), "window 12 0\n"),
            (("scan", -17, 1), "scan -17 1\n"),
            (("scan", 1000, 0), "scan 1000 0\n"),
            (("zip", 1, 0), "zip 1 0\n"),
            (("merge", 0, 1), "merge 0 1\n"),
        ]
        for node, line in lines:
            self.assertEqual(graph_text(Graph([SOURCE, SOURCE, node])), "source\nsource\n" + line)

    def test_all_kinds_in_one_text(self):
        self.assertEqual(graph_text(Graph(ALL_KINDS)), ALL_KINDS_TEXT)

    def test_two_digits_as_an_input(self):
        nodes = [SOURCE] + [("map", 0)] * 10 + [("zip", 10, 9)]
        self.assertEqual(graph_text(Graph(nodes)), "source\n" + "map 0\n" * 10 + "zip 10 9\n")


class ReadingTest(TextCase):
    def test_what_is_written_is_read_back(self):
        scans = [SOURCE] + [("scan", start, 0) for start in (-1000, -10, -1, 0, 1, 9, 10, 1000)]
        for nodes in (ALL_KINDS, scans, [SOURCE], [SOURCE] + [("map", 0)] * 11):
            graph = read_graph(graph_text(Graph(nodes)))
            self.assertIsInstance(graph, Graph)
            self.assertEqual(graph.nodes, nodes)
            self.assertEqual(graph_text(graph), graph_text(Graph(nodes)))

    def test_a_text_is_read(self):
        self.assertEqual(read_graph(ALL_KINDS_TEXT).nodes, ALL_KINDS)

    def test_leading_zeros(self):
        for line in ("map 00", "map 01", "take 01 0", "take 00 0", "scan 007 0", "scan -01 0"):
            self.assert_wrong_line(f"source\n{line}\n", 1)

    def test_minus_zero_and_other_signs(self):
        for line in ("scan -0 0", "map -0", "take -0 0", "scan +1 0", "scan - 0", "scan --1 0", "scan 1- 0"):
            self.assert_wrong_line(f"source\n{line}\n", 1)

    def test_other_ways_to_write_an_integer(self):
        for word in ("1_0", "0x1", "1x", "a", "1.0", "1e0", "one", "True", "None", "\u0661", "\u00b2", "\uff11"):
            self.assert_wrong_line(f"source\ntake {word} 0\n", 1)

    def test_spaces(self):
        wrong = [
            "map0", "map  0", " map 0", "map 0 ", "map\t0", "take 1  0", "take 10", "take1 0",
            "map 0\r", "map 0\f", "map\u00a00", " source", "source ", " ",
        ]
        for line in wrong:
            self.assert_wrong_line(f"source\n{line}\n", 1)

    def test_a_missing_last_line_feed(self):
        self.assert_wrong_line("source", 0)
        self.assert_wrong_line("source\nmap 0", 1)
        self.assert_wrong_line(" ", 0)
        self.assert_wrong_line(ALL_KINDS_TEXT[:-1], 10)

    def test_an_empty_line(self):
        self.assert_wrong_line("\n", 0)
        self.assert_wrong_line("\nsource\n", 0)
        self.assert_wrong_line("source\n\nmap 0\n", 1)
        self.assert_wrong_line("source\n\n", 1)

    def test_other_ends_of_lines(self):
        for end in ("\r\n", "\r", "\v", "\f", "\x1e", "\u2028"):
            self.assert_wrong_line(f"source{end}map 0\n", 0)

    def test_the_empty_text(self):
        self.assert_wrong_graph("", 0, "wrong number of nodes")

    def test_unknown_words(self):
        for line in ("sources", "Source", "join 0 0", "0", "map zero", "('source',)"):
            self.assert_wrong_line(f"source\n{line}\n", 1)

    def test_wrong_counts_of_numbers(self):
        for line in ("source 0", "map", "map 0 0", "take 1", "take 1 0 0", "zip 0", "zip 0 0 0", "scan 1"):
            self.assert_wrong_line(f"source\n{line}\n", 1)

    def test_bounds(self):
        wrong = [
            "take -1 0", "take 21 0", "drop -1 0", "drop 21 0", "window 0 0", "window 21 0",
            "scan -1001 0", "scan 1001 0", "map -1", "zip 0 -1", "merge -1 0",
        ]
        for line in wrong:
            self.assert_wrong_line(f"source\n{line}\n", 1)
        right = [
            ("take", 0, 0), ("take", 20, 0), ("drop", 0, 0), ("drop", 20, 0), ("window", 1, 0),
            ("scan", -1000, 0), ("scan", 1000, 0),
        ]
        for node in right:
            line = " ".join(str(part) for part in node)
            self.assertEqual(read_graph(f"source\n{line}\n").nodes, [SOURCE, node])
        self.assert_wrong_graph("source\nwindow 20 0\n", 1, "too wide")

    def test_the_first_wrong_line_counts(self):
        self.assert_wrong_line("source\nmap\nsource\nnothing\nmap 0", 1)
        self.assert_wrong_line("source\nmap 0\nsource\nnothing\nmap 0", 3)
        self.assert_wrong_line("source\nmap 0\nsource\nsource\nmap 0", 4)

    def test_the_form_of_a_node_alone_makes_a_line(self):
        self.assert_wrong_graph("map 0\n", 0, "no such input")
        self.assert_wrong_graph("source\nmap 12\nmap 0\n", 1, "no such input")
        self.assert_wrong_graph("source\nwindow 13 0\n", 1, "too wide")
        self.assert_wrong_graph("source\nzip 0 0\nmerge 0 1\n", 2, "widths differ")
        self.assert_wrong_graph("source\nmerge 0 0\nmerge 0 1\n", 2, "too long")
        self.assert_wrong_graph("source\n" * 5, 4, "too many sources")
        self.assert_wrong_graph("source\n" * 13, 13, "wrong number of nodes")

    def test_an_input_of_very_many_digits_is_no_such_input(self):
        self.assert_wrong_graph("source\nmap " + "9" * 5000 + "\n", 1, "no such input")

    def test_a_wrong_line_goes_ahead_of_an_earlier_wrong_node(self):
        self.assert_wrong_line("map 0\nmap 5\nmap\n", 2)
        self.assert_wrong_line("source\nwindow 13 0\nmap 0", 2)
        self.assert_wrong_line("source\n" * 13 + "sources\n", 13)

    def test_the_error_is_one_of_the_program(self):
        self.assertRaises(LeastpullError, read_graph, "source")
        self.assertRaises(ValueError, read_graph, "source")


if __name__ == "__main__":
    unittest.main()
