"""The whole rows of a graph."""

from leastpull.graphs import calling_nodes, source_nodes
from leastpull.kinds import inputs_of
from leastpull.rules import filter_answer, map_answer, merge_answer, scan_answer


def whole_rows(graph, values, rules):
    """The list of the lists of rows of all nodes, for the values of the sources and the rules."""
    values_at = dict(zip(source_nodes(graph), values))
    rule_at = dict(zip(calling_nodes(graph), rules))
    whole = []
    for number, node in enumerate(graph.fixed_nodes):
        below = [whole[p] for p in inputs_of(node)]
        if number in values_at:
            whole.append([[value] for value in values_at[number]])
        elif number in rule_at:
            whole.append(_called_rows(node, rule_at[number], below))
        else:
            whole.append(_plain_rows(node, below))
    # Nodes share rows up to here; the caller gets each row as a list of its own.
    return [[list(row) for row in rows] for rows in whole]


def _called_rows(node, rule, below):
    """The rows of a node that has a function, by the rows of its inputs."""
    kind = node[0]
    if kind == "map":
        return [[map_answer(rule, row, index)] for index, row in enumerate(below[0])]
    if kind == "filter":
        return [row for index, row in enumerate(below[0]) if filter_answer(rule, row, index)]
    if kind == "while":
        return _while_rows(rule, below[0])
    if kind == "scan":
        return _scan_rows(rule, node[1], below[0])
    return _merge_rows(rule, below[0], below[1])


def _plain_rows(node, below):
    """The rows of a take, drop, window or zip, by the rows of its inputs."""
    kind = node[0]
    if kind == "take":
        return below[0][:node[1]]
    if kind == "drop":
        return below[0][node[1]:]
    if kind == "window":
        return _window_rows(node[1], below[0])
    return [row + other_row for row, other_row in zip(below[0], below[1])]


def _while_rows(rule, rows):
    found = []
    for index, row in enumerate(rows):
        if not filter_answer(rule, row, index):
            break
        found.append(row)
    return found


def _scan_rows(rule, start, rows):
    found = []
    accumulator = [start]
    for index, row in enumerate(rows):
        accumulator = [scan_answer(rule, accumulator, row, index)]
        found.append(accumulator)
    return found


def _window_rows(n, rows):
    return [_joined(rows[at:at + n]) for at in range(len(rows) - (n - 1))]


def _joined(rows):
    return [value for row in rows for value in row]


def _merge_rows(rule, rows, other_rows):
    found = []
    index = other_index = 0
    while index < len(rows) and other_index < len(other_rows):
        if merge_answer(rule, rows[index], index, other_rows[other_index], other_index):
            found.append(rows[index])
            index += 1
        else:
            found.append(other_rows[other_index])
            other_index += 1
    return found + rows[index:] + other_rows[other_index:]
