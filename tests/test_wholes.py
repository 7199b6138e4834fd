import unittest

from leastpull.graphs import Graph, read_graph, widths
from leastpull.wholes import whole_rows
from samples import ALL_KINDS, SOURCE


def last_rows(nodes, values, rules):
    return whole_rows(Graph(nodes), values, rules)[-1]


class WholeCase(unittest.TestCase):
    def assert_rows(self, nodes, values, rules, rows):
        self.assertEqual(last_rows(nodes, values, rules), rows)

    def assert_over_one(self, node, values, rules, flat):
        """The node over one source has these rows of one integer each."""
        self.assert_rows([SOURCE, node], [values], rules, [[value] for value in flat])


class SourceTest(WholeCase):
    def test_its_values_are_its_rows(self):
        self.assert_rows([SOURCE], [[3, -1, 0, 1000000]], [], [[3], [-1], [0], [1000000]])
        self.assert_rows([SOURCE], [[]], [], [])

    def test_sources_are_numbered_in_the_order_of_their_nodes(self):
        nodes = [SOURCE, ("take", 1, 0), SOURCE, SOURCE]
        rows = whole_rows(Graph(nodes), [[1, 2], [], [5]], [])
        self.assertEqual(rows, [[[1], [2]], [[1]], [], [[5]]])

    def test_two_hundred_values(self):
        values = list(range(200))
        self.assert_over_one(("drop", 0, 0), values, [], values)


class MapTest(WholeCase):
    def test_answers(self):
        self.assert_over_one(("map", 0), [5, -3, 0], [(2, -1, 4)], [14, 997, 2])
        self.assert_over_one(("map", 0), [5, 5, 5], [(0, -9, 0)], [0, 991, 982])

    def test_answers_are_from_0_to_999(self):
        values = [500, -500, 999999, -1, 1000, -1000]
        self.assert_over_one(("map", 0), values, [(2, 0, 0)], [0, 0, 998, 998, 0, 0])

    def test_the_sum_of_a_wide_row(self):
        nodes = [SOURCE, ("window", 2, 0), ("map", 1)]
        self.assert_rows(nodes, [[5, -3, 0]], [(3, 5, -9)], [[997], [987]])

    def test_no_rows(self):
        self.assert_over_one(("map", 0), [], [(1, 1, 1)], [])


class FilterTest(WholeCase):
    def test_rows_whose_sum_is_no_multiple_of_3(self):
        self.assert_over_one(("filter", 0), [-4, -3, -2, -1, 0, 1, 2, 3], [(1, 0, 0)], [-4, -2, -1, 1, 2])

    def test_the_index_is_that_of_the_input(self):
        self.assert_over_one(("filter", 0), [4, 7, 1, 4], [(-1, 1, 1)], [7, 1])

    def test_all_and_none(self):
        self.assert_over_one(("filter", 0), [3, 0, 1], [(0, 0, 1)], [3, 0, 1])
        self.assert_over_one(("filter", 0), [3, 0, 1], [(0, 0, -3)], [])
        self.assert_over_one(("filter", 0), [], [(1, 1, 1)], [])

    def test_wide_rows_stay_as_they_are(self):
        nodes = [SOURCE, ("window", 2, 0), ("filter", 1)]
        self.assert_rows(nodes, [[5, -2, 3, -9]], [(1, 0, 0)], [[-2, 3]])


class WhileTest(WholeCase):
    def test_it_stops_at_the_first_false(self):
        self.assert_over_one(("while", 0), [1, -2, 3, 1, 1], [(1, 0, 0)], [1, -2])

    def test_the_index_counts(self):
        self.assert_over_one(("while", 0), [8, 8, 8, 8], [(0, -1, -1)], [8, 8])

    def test_it_stops_at_once(self):
        self.assert_over_one(("while", 0), [-3, 1, 1], [(1, 0, 0)], [])

    def test_it_stops_never(self):
        self.assert_over_one(("while", 0), [1, -2, 4, -5], [(1, 0, 0)], [1, -2, 4, -5])

    def test_no_rows(self):
        self.assert_over_one(("while", 0), [], [(0, 0, 1)], [])

    def test_wide_rows_stay_as_they_are(self):
        nodes = [SOURCE, ("window", 2, 0), ("while", 1)]
        self.assert_rows(nodes, [[5, -4, 3, -9, 1]], [(1, 0, 0)], [[5, -4], [-4, 3]])


class TakeAndDropTest(WholeCase):
    def test_take(self):
        self.assert_over_one(("take", 2, 0), [3, 1, 4], [], [3, 1])
        self.assert_over_one(("take", 3, 0), [3, 1, 4], [], [3, 1, 4])
        self.assert_over_one(("take", 20, 0), [3, 1, 4], [], [3, 1, 4])

    def test_take_0(self):
        self.assert_over_one(("take", 0, 0), [3, 1, 4], [], [])

    def test_drop(self):
        self.assert_over_one(("drop", 0, 0), [3, 1, 4], [], [3, 1, 4])
        self.assert_over_one(("drop", 2, 0), [3, 1, 4], [], [4])
        self.assert_over_one(("drop", 3, 0), [3, 1, 4], [], [])

    def test_drop_of_more_than_there_is(self):
        self.assert_over_one(("drop", 20, 0), [3, 1, 4], [], [])
        self.assert_over_one(("drop", 1, 0), [], [], [])


class WindowTest(WholeCase):
    def test_rows_behind_each_other(self):
        nodes = [SOURCE, ("window", 3, 0)]
        self.assert_rows(nodes, [[1, 2, 3, 4, 5]], [], [[1, 2, 3], [2, 3, 4], [3, 4, 5]])

    def test_as_long_as_the_input_and_longer(self):
        nodes = [SOURCE, ("window", 3, 0)]
        self.assert_rows(nodes, [[1, 2, 3]], [], [[1, 2, 3]])
        self.assert_rows(nodes, [[1, 2]], [], [])
        self.assert_rows([SOURCE, ("window", 12, 0)], [[1]], [], [])
        self.assert_rows(nodes, [[]], [], [])

    def test_a_window_of_one(self):
        self.assert_over_one(("window", 1, 0), [3, 1], [], [3, 1])

    def test_a_window_of_windows(self):
        nodes = [SOURCE, ("window", 2, 0), ("window", 2, 1)]
        self.assert_rows(nodes, [[1, 2, 3, 4]], [], [[1, 2, 2, 3], [2, 3, 3, 4]])


class ScanTest(WholeCase):
    def test_answers(self):
        self.assert_over_one(("scan", -7, 0), [1, -2, 5], [(2, -3, 1)], [983, 973, 933])

    def test_the_index_counts(self):
        self.assert_over_one(("scan", 0, 0), [7, 7, 7], [(0, 0, -4)], [0, 996, 992])

    def test_the_start_is_no_row(self):
        self.assert_over_one(("scan", 5, 0), [], [(1, 1, 1)], [])
        self.assert_over_one(("scan", 5, 0), [1, 1], [(1, 1, 0)], [6, 7])
        self.assert_over_one(("scan", -1000, 0), [0], [(1, 0, 0)], [0])

    def test_the_sum_of_a_wide_row(self):
        nodes = [SOURCE, ("window", 2, 0), ("scan", 1, 1)]
        self.assert_rows(nodes, [[10, -4, -9]], [(3, 2, 5)], [[15], [24]])


class ZipTest(WholeCase):
    two = [SOURCE, SOURCE, ("zip", 0, 1)]

    def test_to_the_end_of_the_shorter_one(self):
        self.assert_rows(self.two, [[1, 2, 3], [4, 5]], [], [[1, 4], [2, 5]])
        self.assert_rows(self.two, [[1], [4, 5]], [], [[1, 4]])
        self.assert_rows(self.two, [[1, 2], [4, 5]], [], [[1, 4], [2, 5]])

    def test_an_empty_source(self):
        self.assert_rows(self.two, [[], [4, 5]], [], [])
        self.assert_rows(self.two, [[1], []], [], [])

    def test_the_first_input_comes_first(self):
        nodes = [SOURCE, SOURCE, ("zip", 1, 0)]
        self.assert_rows(nodes, [[1], [2]], [], [[2, 1]])

    def test_the_same_node_twice(self):
        self.assert_rows([SOURCE, ("zip", 0, 0)], [[1, -2]], [], [[1, 1], [-2, -2]])

    def test_different_widths(self):
        nodes = [SOURCE, ("window", 2, 0), ("zip", 0, 1), ("zip", 2, 2)]
        self.assert_rows(nodes, [[1, 2, 3]], [], [[1, 1, 2, 1, 1, 2], [2, 2, 3, 2, 2, 3]])


class MergeTest(WholeCase):
    two = [SOURCE, SOURCE, ("merge", 0, 1)]

    def assert_merged(self, ones, others, rule, flat):
        self.assert_rows(self.two, [ones, others], [rule], [[value] for value in flat])

    def test_the_second_is_exhausted_first(self):
        self.assert_merged([1, 5, -4], [2, 3], (1, 1, 0), [1, 2, 3, 5, -4])

    def test_the_first_is_exhausted_first(self):
        self.assert_merged([1], [2, 0, -7], (1, 1, 0), [1, 2, 0, -7])

    def test_empty_sources(self):
        self.assert_merged([], [2, 1], (1, 1, 1), [2, 1])
        self.assert_merged([2, 1], [], (1, 1, 1), [2, 1])
        self.assert_merged([], [], (1, 1, 1), [])

    def test_of_equals_the_first(self):
        self.assert_merged([1, 2], [3, 4], (0, 0, 0), [1, 2, 3, 4])
        self.assert_merged([6], [3], (1, 2, 0), [6, 3])

    def test_the_indexes_count(self):
        self.assert_merged([1, 2, 3], [4, 5, 6], (0, 0, 1), [1, 4, 2, 5, 3, 6])
        self.assert_merged([1, 2, 3], [4, 5, 6], (0, 0, -1), [1, 2, 3, 4, 5, 6])

    def test_negative_integers(self):
        self.assert_merged([4, -1], [-3, 2], (-2, 3, 1), [-3, 4, -1, 2])
        self.assert_merged([-5, -1], [-3], (1, 1, 0), [-5, -3, -1])

    def test_there_is_no_remainder(self):
        self.assert_merged([1000], [1], (1, 1, 0), [1, 1000])

    def test_the_same_node_twice(self):
        nodes = [SOURCE, ("merge", 0, 0)]
        self.assert_rows(nodes, [[1, 2]], [(1, 1, 0)], [[1], [1], [2], [2]])

    def test_the_sums_of_wide_rows(self):
        nodes = [SOURCE, ("window", 2, 0), ("zip", 0, 0), ("merge", 1, 2)]
        rows = [[2, 2], [2, 9], [9, -8], [9, 9], [-8, -8]]
        self.assert_rows(nodes, [[2, 9, -8]], [(1, 1, 0)], rows)


class GraphsTest(WholeCase):
    def test_the_example_of_the_document(self):
        graph = read_graph("source\ntake 2 0\ndrop 1 0\nzip 1 2\n")
        rows = whole_rows(graph, [[3, 1, 4, 1, 5]], [])
        self.assertEqual(rows, [
            [[3], [1], [4], [1], [5]],
            [[3], [1]],
            [[1], [4], [1], [5]],
            [[3, 1], [1, 4]],
        ])

    def test_rules_are_those_of_the_calling_nodes_in_their_order(self):
        nodes = [SOURCE, ("map", 0), ("take", 2, 1), ("scan", 0, 2), ("filter", 3), ("while", 4)]
        rules = [(1, 0, 1), (1, 1, 0), (0, 0, 1), (0, 0, 0)]
        rows = whole_rows(Graph(nodes), [[10, 20, 30]], rules)
        self.assertEqual(rows, [
            [[10], [20], [30]],
            [[11], [21], [31]],
            [[11], [21]],
            [[11], [32]],
            [[11], [32]],
            [],
        ])

    def test_all_kinds_together(self):
        values = [[1, 2, 3], [4, 5, -9, 7, 8, 9]]
        rules = [(2, 0, 1), (1, 0, 0), (1, 0, 0), (1, -1, 0), (1, 1, 0)]
        rows = whole_rows(Graph(ALL_KINDS), values, rules)
        self.assertEqual(rows, [
            [[1], [2], [3]],
            [[4], [5], [-9], [7], [8], [9]],
            [[3], [5], [7]],
            [[5], [7]],
            [[4], [5]],
            [[5], [7]],
            [],
            [[4, 5, -9, 7, 8], [5, -9, 7, 8, 9]],
            [[985], [965]],
            [[4, 5, -9, 7, 8, 1], [5, -9, 7, 8, 9, 2]],
            [[1], [2], [3], [985], [965]],
        ])

    def test_all_rows_are_as_wide_as_their_node(self):
        graph = Graph(ALL_KINDS)
        values = [list(range(200)), list(range(-100, 100))]
        whole = whole_rows(graph, values, [(1, 1, 1), (1, 0, 0), (1, 0, 1), (1, -1, 0), (1, 1, 0)])
        for width, rows in zip(widths(graph), whole):
            self.assertTrue(all(len(row) == width for row in rows))

    def test_as_many_rows_as_there_can_be(self):
        nodes = [SOURCE, SOURCE, ("merge", 0, 1)]
        rows = last_rows(nodes, [list(range(200)), list(range(200))], [(1, 1, 0)])
        self.assertEqual(rows, [[k // 2] for k in range(400)])


if __name__ == "__main__":
    unittest.main()
