"""Measures: what the nodes of a flow can still produce, what is in demand of them, and what they may look at.

Each measure of a node is reckoned from those of other nodes. These are taken from whatever has the fields
remaining, demands and looks: from the measures of the flow themselves, or from the bounds of a paper.
"""

from leastpull.states import active_reader
from leastpull.unlimited import greatest, least, less, total


class Measures:
    """The remaining outputs and the demands of all nodes, and the looks of all positions."""

    def __init__(self, remaining, demands, looks):
        self.remaining = remaining
        self.demands = demands
        self.looks = looks


def all_remaining(state):
    """The list of the remaining outputs of all nodes."""
    found = []
    for number in range(len(state.nodes)):
        found.append(remaining_of(state, number, found))
    return found


def measured(state):
    """The measures of a flow in this state."""
    count = len(state.nodes)
    found = Measures(all_remaining(state), [0 for _ in range(count)], [[] for _ in range(count)])
    for number in reversed(range(count)):
        found.demands[number] = demand_of(state, number, found)
        found.looks[number] = [look_of(state, number, place, found) for place in range(len(state.inputs[number]))]
    return found


def available_at(state, number, place, remaining):
    """The available input at a position."""
    p = state.inputs[number][place]
    return less(total(len(state.outputs[p]), remaining[p]), state.positions[number][place])


def remaining_of(state, number, remaining):
    """How many more rows a node can produce at most, if this holds for its inputs."""
    if state.ended[number]:
        return 0
    node = state.nodes[number]
    kind = node[0]
    if kind == "source":
        return None
    available = available_at(state, number, 0, remaining)
    if kind == "take":
        return least(node[1] - len(state.outputs[number]), available)
    if kind == "window":
        return less(available, node[1] - 1)
    if kind == "zip":
        return least(available, available_at(state, number, 1, remaining))
    if kind == "merge":
        return total(available, available_at(state, number, 1, remaining))
    return available


def demand_at(state, number, place, look):
    """How many further rows a position with this look demands of the input there."""
    if look == 0:
        return 0
    produced = len(state.outputs[state.inputs[number][place]])
    return less(total(state.positions[number][place], look), produced)


def demand_of(state, number, measures):
    """How many further rows of a node may be asked for, if the looks of its consumers are these."""
    wanted = 0
    if active_reader(state, number) is not None:
        wanted = None
    for consumer, place in state.consumers[number]:
        wanted = greatest(wanted, demand_at(state, consumer, place, measures.looks[consumer][place]))
    return least(wanted, measures.remaining[number])


def look_of(state, number, place, measures):
    """How many indexes from a position on may still be accessed there, if the demand for its node is this."""
    demand = measures.demands[number]
    if demand == 0:
        return 0
    node = state.nodes[number]
    available = available_at(state, number, place, measures.remaining)
    if node[0] == "filter":
        return available
    if node[0] == "window":
        return least(available, total(demand, node[1] - 1))
    return least(available, demand)
