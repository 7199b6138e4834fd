"""Plans: futures that are drawn so that a node has to do something.

In a plan no source and no while ends, a filter answers True, but for a few first calls, and a merge takes
the rows of the input that matters, but for a few first calls.
"""

from leastpull.futures import Future
from leastpull.keeping import position_in_demand
from leastpull.measures import available_at, measured
from leastpull.states import active_reader, required_index
from leastpull.steps import lacking_places, next_steps_of_nodes
from leastpull.unlimited import least, less


class Plan:
    """What is settled of a future so far."""

    def __init__(self, state):
        self.state = state
        self.measures = measured(state)
        # For filters and merges: how many first calls get the opposite of the answer, and the answer.
        self.answers = {}


def rows_to_access(plan, number, place, index):
    """How many further rows a node has to produce to access an index that a position of it looks at."""
    state = plan.state
    node = state.nodes[number]
    firings = index - state.positions[number][place] + 1
    if node[0] == "window":
        return max(1, firings - (node[1] - 1))
    if node[0] == "merge":
        plan.answers[number] = (0, place == 0)
    if node[0] == "filter":
        refused = _refused_rows(plan.measures, number, firings - 1)
        plan.answers[number] = (refused, True)
        return firings - refused
    return firings


def _refused_rows(measures, number, most):
    """How many rows a filter may refuse, at most so many, such that it still produces all that is in demand."""
    # To refuse more would exhaust nodes that have to produce rows yet; to refuse less might leave the rest unseen.
    if measures.remaining[number] is None:
        return most
    return min(most, measures.remaining[number] - measures.demands[number])


def pulls_for(plan, node, rows):
    """The pulls, all of one reader, that make a node produce so many further rows, which are in demand."""
    state = plan.state
    reader = active_reader(state, node)
    while reader is None:
        consumer, place = position_in_demand(state, plan.measures, node, rows)
        last = len(state.outputs[node]) + rows - 1
        # A drop asks for no index ahead of its position, so that more rows are produced than were wanted.
        index = max(last, state.positions[consumer][place])
        rows = rows_to_access(plan, consumer, place, index)
        node = consumer
        reader = active_reader(state, node)
    return [reader for _ in range(len(state.outputs[node]) + rows - state.readers[reader].position)]


def hang_on_read(plan, reader, step):
    """Settles answers so that the next row of the reader, whose next step is this read, hangs on what is read."""
    state = plan.state
    number = state.readers[reader].node
    steps = next_steps_of_nodes(state, number)
    # The further row of the node, counted from 0, that is to hang on what is read.
    ahead = 0
    while number not in state.supply:
        place = [at for at in lacking_places(state, number) if steps[state.inputs[number][at]] == step][0]
        if state.nodes[number][0] == "merge":
            # The input that is read may have too few rows; then its last row is the one that matters.
            available = available_at(state, number, place, plan.measures.remaining)
            others = ahead + 1 - least(ahead + 1, available)
            plan.answers[number] = (others, place == 0)
            ahead -= others
        index = required_index(state, number, place) + ahead
        number = state.inputs[number][place]
        ahead = index - len(state.outputs[number])


def further_values(plan, pulls):
    """For each source as many values 0 as the pulls, all of one reader, read at most."""
    state = plan.state
    wanted = [0 for _ in state.nodes]
    if pulls != []:
        reader = state.readers[pulls[0]]
        wanted[reader.node] = max(0, reader.position + len(pulls) - len(state.outputs[reader.node]))
    for number in reversed(range(len(state.nodes))):
        if wanted[number] > 0:
            _want_inputs(plan, number, wanted)
    return [[0 for _ in range(_yielded(state, source, wanted))] for source in state.supply]


def _want_inputs(plan, number, wanted):
    """Raises what is wanted of the inputs of a node to what they are asked for when it produces what is wanted."""
    state = plan.state
    firings = wanted[number]
    if state.nodes[number][0] == "filter":
        firings += plan.answers.get(number, (0, True))[0]
    for place, p in enumerate(state.inputs[number]):
        behind = required_index(state, number, place) + firings
        more = less(behind, len(state.outputs[p]))
        wanted[p] = max(wanted[p], least(more, plan.measures.remaining[p]))


def _yielded(state, source, wanted):
    if state.ended[source] or state.closed[source]:
        return 0
    return wanted[source]


def future_of(plan, further, pulls):
    """The future of a plan with these further values and pulls."""
    return Future(further, [_tape(plan, node) for node in plan.state.voices], pulls)


def _tape(plan, node):
    if plan.state.nodes[node][0] in ("map", "scan"):
        return [], 0
    first, answer = plan.answers.get(node, (0, True))
    return [not answer for _ in range(first)], answer
