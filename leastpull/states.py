"""States: where a flow is."""

from leastpull.kinds import inputs_of


class Reader:
    """A reader of the rows of a node."""

    def __init__(self, node, position, active):
        self.node = node
        self.position = position
        self.active = active


class State:
    """All that a flow has produced and done so far, and what it goes on with.

    Rows that have been produced are never modified, so that outputs and states may share them.
    """

    def __init__(self, nodes, supply, voices):
        self.nodes = nodes
        self.inputs = [inputs_of(node) for node in nodes]
        self.consumers = [_consumers_of(p, self.inputs) for p in range(len(nodes))]
        # For each source all of its values, those that were read included.
        self.supply = supply
        # For each calling node what answers its calls.
        self.voices = voices
        self.outputs = [[] for _ in nodes]
        self.positions = [_first_positions(node) for node in nodes]
        self.ended = [False for _ in nodes]
        self.closed = [False for _ in nodes]
        self.readers = []
        self.events = []
        self.calls = []
        # The pairs of a node and an index that were accessed, in the order of the first access.
        self.accessed = {}

    def add_reader(self, node, position, active):
        """Adds a reader and tells its number."""
        self.readers.append(Reader(node, position, active))
        return len(self.readers) - 1

    def twin(self, supply, voices):
        """A state that goes on from here on its own, with this supply and these voices, nothing accessed so far."""
        made = State(self.nodes, supply, voices)
        made.outputs = [list(rows) for rows in self.outputs]
        made.positions = [list(positions) for positions in self.positions]
        made.ended = list(self.ended)
        made.closed = list(self.closed)
        made.readers = [Reader(reader.node, reader.position, reader.active) for reader in self.readers]
        made.events = list(self.events)
        made.calls = list(self.calls)
        return made


def _consumers_of(node, inputs):
    """The positions on the output of a node: pairs of a consuming node and the place of the input in it."""
    return [
        (number, place)
        for number, nodes in enumerate(inputs)
        for place, p in enumerate(nodes)
        if p == node
    ]


def _first_positions(node):
    first = node[1] if node[0] == "drop" else 0
    return [first for _ in inputs_of(node)]


def has_produced(state, node, index):
    """True if the index of the node's output is produced."""
    return 0 <= node < len(state.nodes) and 0 <= index < len(state.outputs[node])


def required_index(state, node, place):
    """The index of an input that a node requires in order to fire."""
    position = state.positions[node][place]
    if state.nodes[node][0] == "window":
        return position + state.nodes[node][1] - 1
    return position


def active_reader(state, node):
    """The active reader of a node with the least number; None if there is none."""
    for number, reader in enumerate(state.readers):
        if reader.active and reader.node == node:
            return number
    return None
