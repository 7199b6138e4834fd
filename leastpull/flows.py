"""Flows: a graph that is carried out for readers."""

from leastpull.arguments import are_values, is_number_below
from leastpull.errors import FlowError
from leastpull.graphs import calling_nodes, source_nodes
from leastpull.keeping import explained_index, explained_source, kept_indexes, source_state
from leastpull.kinds import is_within
from leastpull.measures import all_remaining, measured
from leastpull.states import State
from leastpull.steps import do_step, is_to_be_done, next_step_of, pull_with, settle
from leastpull.voices import RuleVoice

MOST_FIRST_READERS = 6
MOST_READERS = 12
MOST_VALUES = 200
RULE_BOUNDS = (-9, 9)


class Flow:
    """A flow. The field state belongs to the program; everything else about it is told by the methods."""

    def __init__(self, graph, nodes, values, rules):
        _check(graph, nodes, values, rules)
        self.graph = graph
        self.state = _first_state(graph.fixed_nodes, _supply(graph, values), _voices(graph, rules), nodes)

    def next_step(self, reader):
        """The next step of a reader, a tuple."""
        _check_reader(self.state, reader)
        return next_step_of(self.state, reader)

    def step(self, reader):
        """Does the next step of a reader if it is to fire or to read, and tells it."""
        _check_reader(self.state, reader)
        step = next_step_of(self.state, reader)
        if is_to_be_done(step):
            do_step(self.state, step)
        return step

    def pull(self, reader):
        """Pulls with a reader: the row that it receives, or None."""
        _check_reader(self.state, reader)
        return pull_with(self.state, reader)

    def fork(self, reader):
        """Makes a new reader that goes on where this one is, and tells its number."""
        _check_reader(self.state, reader)
        if len(self.state.readers) >= MOST_READERS:
            raise FlowError("too many readers")
        forked = self.state.readers[reader]
        return self.state.add_reader(forked.node, forked.position, forked.active)

    def close(self, reader):
        """Closes a reader."""
        _check_reader(self.state, reader)
        closed = self.state.readers[reader]
        if closed.active:
            closed.active = False
            settle(self.state)

    def readers(self):
        """For each reader the tuple of its node, its position and whether it is active."""
        return [(reader.node, reader.position, reader.active) for reader in self.state.readers]

    def produced(self):
        """For each node the list of all rows that it has produced."""
        return [[list(row) for row in rows] for rows in self.state.outputs]

    def kept(self):
        """For each node the list of its kept indexes."""
        measures = measured(self.state)
        return [kept_indexes(self.state, measures, node) for node in range(len(self.state.nodes))]

    def positions(self):
        """For each node the list of its positions."""
        return [list(positions) for positions in self.state.positions]

    def sources(self):
        """For each source the tuple of its node, how often it was read, and its state."""
        measures = measured(self.state)
        return [
            (source, self.state.events.count(("read", source)), source_state(self.state, measures, source))
            for source in self.state.supply
        ]

    def events(self):
        """The list of all reads and closings."""
        return list(self.state.events)

    def calls(self):
        """The list of all calls of functions."""
        return list(self.state.calls)

    def remaining(self):
        """The list of the remaining outputs of all nodes."""
        return all_remaining(self.state)

    def demands(self):
        """The list of the demands of all nodes."""
        return measured(self.state).demands

    def looks(self):
        """For each node the list of the looks of its positions."""
        return measured(self.state).looks

    def explain(self, node, index):
        """For whom an index is kept, or a source (the index being None) is open; None if it is not."""
        if index is None:
            return explained_source(self.state, measured(self.state), node)
        return explained_index(self.state, measured(self.state), node, index)

    def copy(self):
        """A flow that goes on on its own."""
        # Any flow of this graph will do, for it gets its state from this one.
        values = [[] for _ in source_nodes(self.graph)]
        rules = [(0, 0, 0) for _ in calling_nodes(self.graph)]
        made = Flow(self.graph, [0], values, rules)
        made.state = self.state.twin(self.state.supply, self.state.voices)
        return made


def _check(graph, nodes, values, rules):
    """Raises FlowError with the first reason why there is no such flow."""
    if not _are_first_nodes(nodes, len(graph.fixed_nodes)):
        raise FlowError("wrong readers")
    if not are_values(values, len(source_nodes(graph)), MOST_VALUES):
        raise FlowError("wrong values")
    if not _are_rules(rules, len(calling_nodes(graph))):
        raise FlowError("wrong rules")


def _check_reader(state, reader):
    """Raises FlowError if there is no reader of this number."""
    if not is_number_below(reader, len(state.readers)):
        raise FlowError("no such reader")


def _are_first_nodes(nodes, count):
    if not isinstance(nodes, list) or len(nodes) < 1 or len(nodes) > MOST_FIRST_READERS:
        return False
    return all([is_number_below(node, count) for node in nodes])


def _are_rules(rules, count):
    if not isinstance(rules, list) or len(rules) != count:
        return False
    return all([_is_rule(rule) for rule in rules])


def _is_rule(rule):
    if not isinstance(rule, tuple) or len(rule) != 3:
        return False
    return all([is_within(part, RULE_BOUNDS) for part in rule])


def _supply(graph, values):
    """For each source its values, as a dict."""
    return {node: list(numbers) for node, numbers in zip(source_nodes(graph), values)}


def _voices(graph, rules):
    """For each calling node what answers its calls, as a dict."""
    return {
        node: RuleVoice(graph.fixed_nodes[node][0], rule)
        for node, rule in zip(calling_nodes(graph), rules)
    }


def _first_state(nodes, supply, voices, reader_nodes):
    state = State(nodes, supply, voices)
    for node in reader_nodes:
        state.add_reader(node, 0, True)
    settle(state)
    return state
