"""What is kept and which sources are open, by measures or by the bounds of a paper, and for whom."""

from leastpull.measures import demand_at
from leastpull.states import active_reader, has_produced
from leastpull.unlimited import is_at_most, total


def reader_that_keeps(state, node, index):
    """The active reader with the least number that keeps an index; None if there is none."""
    for number, reader in enumerate(state.readers):
        if reader.active and reader.node == node and reader.position <= index:
            return number
    return None


def keeps_own_last(state, measures, node, index):
    """True if the node is a scan that keeps this index of its own as the last one."""
    if state.nodes[node][0] != "scan" or index != len(state.outputs[node]) - 1:
        return False
    return measures.demands[node] != 0


def position_that_keeps(state, measures, node, index):
    """The first position that keeps an index, a pair of a node and a place; None if there is none."""
    for consumer, place in state.consumers[node]:
        position = state.positions[consumer][place]
        behind = total(position, measures.looks[consumer][place])
        if position <= index and is_at_most(index + 1, behind):
            return consumer, place
    return None


def keeps(state, measures, node, index):
    """True if the index of the node's output is produced and kept."""
    if not has_produced(state, node, index):
        return False
    if reader_that_keeps(state, node, index) is not None:
        return True
    if keeps_own_last(state, measures, node, index):
        return True
    return position_that_keeps(state, measures, node, index) is not None


def kept_indexes(state, measures, node):
    """The list of the kept indexes of a node, ascending."""
    return [index for index in range(len(state.outputs[node])) if keeps(state, measures, node, index)]


def source_state(state, measures, source):
    """The word for the state of a source."""
    if state.closed[source]:
        return "closed"
    if state.ended[source]:
        return "ended"
    if measures.demands[source] == 0:
        return "idle"
    return "open"


def is_open(state, measures, node):
    """True if the node is a source that is open."""
    return node in state.supply and source_state(state, measures, node) == "open"


def position_in_demand(state, measures, node, rows):
    """The first position that demands at least so many further rows of a node, a pair of a node and a place."""
    for consumer, place in state.consumers[node]:
        if is_at_most(rows, demand_at(state, consumer, place, measures.looks[consumer][place])):
            return consumer, place
    return None


def explained_index(state, measures, node, index):
    """For whom an index is kept, a list of nodes and a reader; None if it is not kept."""
    if not keeps(state, measures, node, index):
        return None
    reader = reader_that_keeps(state, node, index)
    if reader is not None:
        return [], reader
    keeper = node
    if not keeps_own_last(state, measures, node, index):
        keeper, _ = position_that_keeps(state, measures, node, index)
    nodes, reader = _in_demand_for(state, measures, keeper)
    return [keeper] + nodes, reader


def explained_source(state, measures, node):
    """For whom a source is open, a list of nodes and a reader; None if it is none that is open."""
    if not is_open(state, measures, node):
        return None
    return _in_demand_for(state, measures, node)


def _in_demand_for(state, measures, node):
    """For whom a node is in demand: the nodes on the way to a reader, and the reader."""
    nodes = []
    reader = active_reader(state, node)
    while reader is None:
        node, _ = position_in_demand(state, measures, node, 1)
        nodes.append(node)
        reader = active_reader(state, node)
    return nodes, reader
