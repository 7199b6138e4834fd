"""Graphs and their texts."""

from leastpull.errors import GraphError, TextError
from leastpull.kinds import CALLING_KINDS, all_greatest_lengths, all_widths, greatest_length_of
from leastpull.kinds import inputs_of, is_node, width_of

MOST_NODES = 12
MOST_SOURCES = 4
MOST_WIDTH = 12
MOST_LENGTH = 400
DIGITS = "0123456789"


class Graph:
    """A graph, made of a list of tuples, one for each node."""

    def __init__(self, nodes):
        # The list in the field nodes is in the caller's hands, so the program reads the tuple alone.
        self.fixed_nodes = tuple(nodes)
        _check_nodes(self.fixed_nodes)
        self.nodes = list(nodes)


def _check_nodes(nodes):
    if len(nodes) < 1 or len(nodes) > MOST_NODES:
        raise GraphError(len(nodes), "wrong number of nodes")
    for number in range(len(nodes)):
        reason = _first_reason(nodes[:number], nodes[number])
        if reason is not None:
            raise GraphError(number, reason)


def _first_reason(ahead, node):
    """The first reason for which a node is wrong behind right ones; None if it is right."""
    if not is_node(node):
        return "not a node"
    if any([p >= len(ahead) for p in inputs_of(node)]):
        return "no such input"
    widths_ahead = all_widths(ahead)
    if node[0] == "merge" and widths_ahead[node[1]] != widths_ahead[node[2]]:
        return "widths differ"
    if width_of(node, widths_ahead) > MOST_WIDTH:
        return "too wide"
    if greatest_length_of(node, all_greatest_lengths(ahead)) > MOST_LENGTH:
        return "too long"
    if node[0] == "source" and len(_of_kinds(ahead, ("source",))) >= MOST_SOURCES:
        return "too many sources"
    return None


def _of_kinds(nodes, kinds):
    """The numbers of the nodes of these kinds."""
    return [number for number, node in enumerate(nodes) if node[0] in kinds]


def widths(graph):
    """The list of the widths of all nodes."""
    return all_widths(graph.fixed_nodes)


def greatest_lengths(graph):
    """The list of the greatest lengths of all nodes."""
    return all_greatest_lengths(graph.fixed_nodes)


def source_nodes(graph):
    """The list of the numbers of the sources."""
    return _of_kinds(graph.fixed_nodes, ("source",))


def calling_nodes(graph):
    """The list of the numbers of the nodes that have functions."""
    return _of_kinds(graph.fixed_nodes, CALLING_KINDS)


def graph_text(graph):
    """The text of a graph, a line for each node."""
    return "".join([_line_of(node) for node in graph.fixed_nodes])


def _line_of(node):
    words = " ".join([str(part) for part in node])
    return f"{words}\n"


def read_graph(text):
    """The graph of a text; raises TextError, then GraphError."""
    lines = text.split("\n")
    nodes = [_node_of(line) for line in lines[:-1]]
    # Behind the last line feed stands nothing, or else a line that lacks its own.
    if lines[-1] != "":
        nodes.append(None)
    if None in nodes:
        raise TextError(nodes.index(None))
    return Graph(nodes)


def _node_of(line):
    """The node that a line (without its line feed) tells; None if it tells none."""
    words = line.split(" ")
    numbers = [_integer_of(word) for word in words[1:]]
    node = (words[0], *numbers)
    return node if is_node(node) else None


def _integer_of(word):
    """The integer that a word writes; None if it writes none."""
    digits = word[1:] if word.startswith("-") else word
    if digits == "" or any([sign not in DIGITS for sign in digits]):
        return None
    if digits[0] == "0" and word != "0":
        return None
    # Not by int, which refuses a word of several thousand digits.
    value = 0
    for sign in digits:
        value = value * 10 + DIGITS.index(sign)
    return value if digits == word else -value
